import PyProof.Rows.All
import Wide.All
import OpenK.AllK
import Wide.FinOn
import PyProof.EqAt
import PyProof.EqKinds
import PyProof.TupleCall
import PyProof.NeKinds
import PyProof.FactsAll.tuple_2
import PyProof.FactsAll.tuple_3
import PyProof.ListRange
import KE.KSortTup
import PyProof.EnumMake
import PyProof.AutoSeq1
import PyProof.Rows.SeqMore
import KE.KIsAll
import PyProof.ExcArgsOwn
import PyProof.ExcBaseAll.ValueError
import PyProof.ExcAttrAll.ValueError
import OpenK.KOwn
import PyProof.RulesAs
import PyProof.AutoRange
import PyProof.SeqRoads2
import PyProof.ZipIter
import PyProof.StrCalls2
import KE.KDictSum
import PyProof.SumAny
import KE.KRevIter
import PyProof.Rows.FStr
import PyProof.Rows.FStrParts
import KE.KRevSl
import PyProof.Rows.SetFrom
import PyProof.Rows.SortRev
import Lean
import PySem.Challenge.RW_rookborders_k38_classes_and_rows
set_option bootstrap.genMatcherCode false
set_option compiler.extract_closed false
set_option Elab.async false
set_option linter.all false
set_option maxRecDepth 100000
set_option maxHeartbeats 1000000
set_option linter.defProp false
open PySem renaming wpAny_bind→R8,wpAny_pure→Sa,Value→Sb,Shared→Sc,starEach→Sv,wpAny→Sy,sizeLine→SC,Program→SS,cLine→S7,Around→Tb,World→Tf,wpAny_mono→Tl,wpAny_holding→Tr,wpAny_setState_of→Ts,wpAny_call_entry→Tx,foldedSetIterable→TH,SetTable→TK,mem_of_lookup→TM,bootBuiltins→TN,wpAny_newObj_type→TR,tupleKind_room_in1→TV,sizeLine_eq→TY,wpAny_loadPart'→T1,wpAny_callSpecial?_slot→T6,compareOp→Ub,backTo→Ue,mainGlobals→Ut,wpAny_truthy_bool→Uu,Builtin→Ux,Spec→UA,assignEach→UB,swapsWith→UD,behindInMarks→UG,cellsFrom→UK,unsupported→UL,codeAny_builtin→UM,sysModules→UT,wpAny_standAt→UW,wpAny_typeNameOfWhole_keyiter→U0,Scope→U8,binaryOp→U9,NameKind→Va,codeAny_mono→Vc,attributeBase→Ve,wpAny_isInstance→Vf,FuncData→Vj,codeAny→Vo,wpAny_passesOwn→Vp,letOwnedTupleGo→Vq,wpAny_storeSet_of→Vu,Keyword→Vv,wpAny_field→Vy,wpAny_setEpoch_of→VA,wpAny_comprehension_free→VD,wpAny_typeNameOf_keyiter→VF,wpAny_forIn_list→VP,putSet_of→VR,assign→VS,wpAny_setField→VT,keywordEach→VW,pyNext→VX,rawInt→VY,wpAny_setField_rec→V4,wpAny_ite_split→V8,holding→Wi,wpAny_fieldsOf→Wr,wpAny_setEntries_of→WF,wpAny_attempt→WJ,wpAny_pyIter_tuple→WS,wpAny_Call_Name_kw→WT,tupleKind→WU,setAddHashed→W2,wpAny_pyIter_enum→W6,wpAny_dictEntries→W9,sub_set_self→Xb,atKey_none_of_get→Xc,wpAny_isOneOf_keyiter→Xj,wpAny_rule→Xo,wpAny_askSetting→Xr,swapsWithSole→Xw,swappedStores→Xx,relabel→Xy,backToKw→XA,wpAny_specialOf→XF,wpAny_execs_nil→XH,codeAny_of_tree→XJ,IsEnum→XN,wpAny_seqItems→X8,newFunctionEnv→Yd,wpAny_letOwnedTupleGo_enum→Ye,wpAny_getItem_heap→Yf,entryFor_alias→Yg,ofAClassStatement→Yk,wpAny_assign_Name→Ym,standAt→Yn,wpAny_pyIter_list→Yo,wpAny_of_eq→Yr,wpAny_pyIter_slot→Yu,pyIter→YA,plainId_quiet→YG,setWalkUnseen→YK,setDiscardHashed→YN,Result→Y3,richCompare_meets_room→Y5,getItem→Y7,wpAny_Call_method_late→Y9,callerA→Za,codeAny_compStart_list→Zb,theTreesLotGoes→Zl,atKey→Zm,wpAny_dictEpoch→Zn,wpAny_isSame_ref_self→Zp,wpAny_isTrue_Compare1→Zq,exec_Assign_Name_used→Zs,wpAny_notOrdered_dict→Zy,weight_type_call_type→ZA,again→ZD,subscripted→ZF,wpAny_runValue→ZH,firstArgMember→ZI,isSubtype_stop→ZJ,codeAny_call_builtin→ZN,dictSetDefault→ZO,wpAny_binaryOp_same→ZV,assignInOrder→Z0,wpAny_newList→Z3,wpAny_handled→Z4,builtinsNs→jab,call_meets→jac,wpAny_typeOf→jau,searchCouldBeSeen→jav,setState→jax,BindsTo→jaz,concat_meets→jaB,seqIndex_neg→jaD,slot_list_getitem→jaE,compEnvC→jaG,codeAny_loop→jaH,compTurn→jaI,newList→jaJ,call_meetsIn→jaR,wpAny_Call_method→jaS,entryFor→jaT,slotArgs→jaU,wpAny_eqBool_int→jbc,wpAny_execs_cons→jbe,PassesOwn→jbf,noFill_tuple_add→jbi,DictEntry→jbj,noteFrame→jbk,wpAny_pyIter_zip→jbo,checkBuiltinCall→jbq,hashByValue→jby,seqIndex_of→jbA,sliceBounds→jbB,wpAny_alloc→jbC,wpAny_noted→jbE,wpAny_throw→jbG,storedH_new→jbJ,valueAt→jcf,storeSet→jcl,GenState→jcp,wpAny_Name→jcq,bindName→jcr,wpAny_load→jct,wpAny_call→jcw,bindL→jcx,bindC→jcy,call→jcB,compPost→jcC,field→jcN,newExc→jcO,newTuple→jcP,setField→jcQ,argsOk→jcS,setRoomFor→jcW
open List renaming range→R9,length_map→Sm,map_cons→So,getElem?_eq_getElem→Su,mem_cons_of_mem→Sx,getElem?_eq_some_iff→Sz,replicate→SA,mem_cons_self→SB,getElem?_set_ne→SD,mem_range→SE,length_append→SG,mem_singleton→SI,map_map→SJ,mem_append→SL,mem_map→SM,length_cons→SN,mem_cons→SU,getElem?_set_self→SX,map_append→SZ,mem_filter→S4,mem_of_getElem?→S5,mem_map_of_mem→S6,perm_ext_iff_of_nodup→Tg,nodup_append→Th,mem_append_right→Tj,mem_append_left→Tq,getElem?_append_left→Tu,mem_iff_getElem?→Tz,map_congr_left→TC,all_eq_true→TQ,flatMap_cons→TU,nodup_cons→TW,length_singleton→TX,append_nil→TZ,length_nil→T3,getElem?_append_right→T5,getD_eq_getElem?_getD→T7,length_range→T8,pairwise_iff_getElem→T9,nodup_range→Uf,pairwise_map→Uh,getElem?_replicate→Ui,length→Uk,pairwise_lt_range→Ul,map_flatMap→Uo,filter_eq_self→Ur,getElem?_map→Us,toArray→Uy,getElem?_zip_eq_some→UN,length_filter_le→UP,pairwise_cons→US,length_eraseIdx→UZ,getElem?_cons_zero→U3,filter_cons_of_pos→U6,mem_flatMap→Vg,eraseIdx_sublist→Vn,find?_cons→Vr,sum_cons→VJ,getElem_of_mem→VL,filter_sublist→VM,ext_getElem→VQ,getElem?_cons_succ→VU,isEmpty_nil→VV,range_succ_eq_map→V2,foldl_cons→V7,getD→Wc,ext_getElem?→Wk,pairwise_append→Wm,nodup_nil→Wq,any_map→Wv,not_mem_nil→Wz,mem_of_find?_eq_some→WA,drop_eq_getElem_cons→WB,getLast?_eq_getElem?→WD,zip_cons_cons→WQ,range'→WX,filter_cons_of_neg→WZ,append_assoc→W1,drop_eq_nil_of_le→W3,any_eq_false→W7,eraseIdx_eq_take_drop_succ→Xd,getElem?_eq_none→Xg,pairwise_flatMap→Xh,mem_eraseIdx_iff_getElem?→Xm,any_cons→Xz,nil_append→XE,filterMap_cons→XT,mem_filterMap→X7,lookup_append→Yc,filter_append→Yh,size_toArray→Yp,getElem?_take_of_lt→YB,all_cons→YE,mem_of_mem_eraseIdx→YJ,perm_middle→YM,length_eraseIdx_le→YO,length_take→YQ,getElem_mem→YU,pairwise_singleton→YY,take_of_length_le→Y0,getElem?_eraseIdx→Y1,filter_eq_nil_iff→Zi,length_pos_of_mem→Zj,of_mem_zip→Zk,take_append_drop→Zo,length_replicate→Zr,mem_of_mem_drop→ZC,range_eq_range'→ZG,map_eq_nil_iff→ZU,find?_eq_none→Z7,count_eq_zero→jak,count_pos_iff→jal,ne_nil_of_mem→jam,take_sublist→jar,map_nil→jaC,map→jaO,getElem?_set→jaP,getElem?_inj→jaW,getElem_take→jaX,filter_congr→jaZ,filter_cons→jbb,getElem_inj→jbd,getElem_map→jbl,range'_succ→jbm,flatMap_map→jbt,flatMap_nil→jbw,map_id→jbL,find?_some→jbM,filter_map→jbX,range_succ→jca,Nodup→jcg,mapM_cons→jcV,take_succ→jcX,count→jcZ,map_take→jdp,all_map→jeC,map_set→jeV,flatMap→jeX
open PySem.Heap renaming get?_push_of_some→Sd,get?_push_size→Sj,lt_size→Sw,SameBut→S8,get?_update_self→Ti,get?_update_other→Um,size_push→UJ,ExtBut→Ys,get?_push_ne→Yt
open Nat renaming le_of_ble_eq_true→Se,le_refl→Sn,lt_of_lt_of_le→SH,lt_of_le_of_lt→SK,ne_of_lt→SW,le_trans→Tk,lt_irrefl→Tv,ne_of_gt→Uc,pow_le_pow_right→Uj,zero_le→Uv,mod_lt→UR,le_of_lt→UV,add_le_add_left→Vb,lt_trichotomy→Vt,lt_of_succ_lt→Vw,pow→VB,le_add_right→VO,not_lt→V1,lt_of_succ_lt_succ→V3,lt_succ_iff→V6,le_add_left→V9,le_of_succ_le→Wj,mul_le_mul→Wp,lt_succ_self→Wt,le_max_right→Wu,mod_eq_of_lt→Ww,not_lt_zero→WM,le_max_left→WN,beq→WP,eq_of_beq_eq_true→Xk,pow_succ'→Xu,le_succ→XB,pow_succ→XX,zero_add→XY,lt_succ_of_lt→Yv,sub→Yw,mul_assoc→Yz,succ_add_eq_add_succ→YL,lt_trans→YZ,add_mod→ZB,add_mul→ZL,one_mul→ZM,eq_of_testBit_eq→ZQ,add→ZR,mul→ZS,lt_of_le_of_ne→jai,xor_lt_two_pow→jaj,mul_comm→jap,add_zero→jaQ,testBit_and→jbY,testBit_xor→jbZ,succ→jcE,add_assoc→jdN,succ_add→jeo,sub_self→jep,add_comm→jeL,lt_or_ge→jeS
open PySem.W renaming Frag→Sf,hashAt→Xl,kia_one→Xp,kas_rev→X1,keepIn→Yb,kitOne→YS,fnOf→Y4,codeIn→jaA,kas_sort→jaL,kas_ask→jaM,cellsFrom_some→jbg,methodObj→jbz,OpenLaw→jea
open Option renaming bind_eq_some_iff→Si,bind_some→Ss,map_eq_some_iff→SO,isSome_map→U4,map_eq_none_iff→V5,map_some→Wa,isSome_some→jad,bind→jbD,map_map→jdb,none→jfG
open Bool renaming false_eq_true→SF,and_eq_true→TL,not_eq_true'→Uw,false_ne_true→UU,and_eq_true_iff→U1,eq_iff_iff→U7,true_and→VE,not_true→Wb,or_eq_true→XQ,and_eq_false_iff→Zx,or_eq_true_iff→ZW,and_self→ZZ,eq_false_iff→jba,false_and→jci,and_false→jcj,and_true→jdM
open PySem.Value renaming ref→SQ,none→Te,int→Xn,notImplemented→ZE,bool→Z9,type→jaa,isInt_shape→jaw,isStrOf→jdq,str→jdT,isInt→jfs
open Array renaming length_toList→SV,getElem?_toList→Tc,getElem?_eq_getElem→Td,getElem?_eq_some_iff→T4,mem_toList_iff→Wn,getElem?_eq_none→Xa,getD_eq_getD_getElem?→X0,getElem?_replicate→Yx,toList_filterMap→Y2,getD→Z6,forIn_toList→Z8,getElem_mem→jaK,replicate→jbN,size_map→jck
open PySem.SetTable renaming below→SY,insertAt→Tp,bits→Tt,eraseAt→Tw,sizeAbove→TB,runEnd→TF,toList_insertAt→Ug,turns→Vh,leap→WG,has→XZ,laid→Yy,slot→ZX,fill→ZY,layClean→jas,grown→jcn,drop→jdl
open Ne renaming symm→S9
open Or renaming inr→Ta,inl→TJ
open PySem.PassesOwn renaming never→Tn
open PySem.Heap.SameBut renaming update→To,refl→U5
open Classical renaming byContradiction→Ua,skolem→jbu
open PySem.F renaming called_set→Ud,slot_dict_keyiterator_next→Uz,slot_list_append→UX,type_list_append→UY,slot_tuple_iterator_next→Vm,slot_enumerate_next→Wg,slot_dict_getitem→WC,plainAttrs_list→WW,plain_list_iadd→W4,slot_dict_get→Xi,args_dict_keyiterator_next_1→Xs,entry_dict_keyiterator_next→XD,args_tuple_iterator_next_1→XM,slot_dict_setdefault→XS,slot_set_contains→XU,entry_tuple_iterator_next→X3,args_tuple_add_2→YD,slot_tuple_index→YF,entry_tuple_add→YR,args_enumerate_next_1→YT,args_dict_get_3→YV,plainAttrs_dict→YW,slot_tuple_add→Y6,entry_enumerate_next→Ze,typeCall_enumerate_1→Zf,entry_dict_get→Zg,plainAttrs_set→Zh,entry_proto_collect→Zt,plain_proto_collect→Zu,newCall_enumerate_1→Zv,entry_enumerate_new→Zw,args_object_init_2→ZK,called_enumerate→jae,entry_list_iadd→jaN,entry_type_call→jaV,slot_dict_iter→jbp,entry_set_init→jbr,slot_set_iter→jbS,plain_set_new→jbT
open PySem.Builtin.SmallTypes renaming nextOf→Uq,ownedTupleHandOut→WE,ownedTupleIsFree→WL
open PySem.Obj renaming data_mapFields→UC,isFreed_of_fields→UQ,mapSeq→Vl,mapFields→VG,putSet→WR,cls_mapFields→W5,data_mapDictKeys→ZP
open PySem.Around renaming under_plainId→UE,under_plain→jag
open PyProof.Rows renaming callWith_type1→UF,IntsAre→UO,seqObj→Wf,sortedHeap→Xq,AllBare→Xv,envOfC→XI,assignInOrder_cons→Ya,subscriptTail_builtinR→Y8,subscriptTail→Z1,listUpdate_at→Z2,assignInOrder_nil→jay,callWith_builtin1→jbh,seqEpoch_at→jbF,callWith_type0→jce,IsTup→jco,Subscript_→jcA,lt_int→jgl,gt_int→jgA
open PySem.NameKind renaming free→UH,cell→WI
open PySem.SetTable.layClean renaming free→UI
open Int renaming toNat_natCast→U2,emod_eq_of_lt→Vz,natCast_emod→Wx,mul_le_mul_of_nonneg_left→XC,natCast_add→XO,emod_lt_of_pos→Z5,add_emod_right→jah,ediv_nonneg→jbQ,add_comm→jeK
open PySem.Paired renaming length→Vd,snoc→jfQ
open List.Nodup renaming sublist→Vi,length_le_of_subset→VN
open PySem.SeqAt renaming EqAt→Vk,RcAt→Zc,RcNeAt→Zd
open List.Pairwise renaming filter→Vs,imp_of_mem→VC,sublist→We,nil→Wh
open PySem.Str renaming ofString→Vx
open PySem.Builtin.Frozenset renaming addrOf→VH,oneOther→Ws,withSetAsKey→Xt,updateFrom→jbV,newClass→jcT,sizeOf→jdJ,slot0→jej
open List.cons renaming inj→VI
open PySem.Calls renaming spliced_cons→VZ,callWith_builtin→V0,evalArgs_plain→Wo,Name_function_global→X9,call_function_entry→Yi,spliced_nil→Yq
open PySem.Builtin.List renaming listTooLong→WH,listExtendWith→X2,listLengthHint→X4
open PySem.W.KasT renaming kasWp_bind→WO
open PySem.Builtin.Range renaming rangeSize→WV
open PyProof.Rows.F renaming plain_set_update_loop→WY,entry_set_update_loop→YX
open PySem.MeetsSeq2 renaming wpAny_forIn_array→W0
open Nat.succ renaming inj→W8
open PySem.Builtin.Tuple renaming tupleCompareSizes→Xe,tupleHashOf→jdc
open PySem.SetTable.sizeAbove renaming go→Xf
open Option.some renaming inj→XG
open PySem.Builtin.Dict_items renaming ownsTuple→XR
open Function renaming comp_apply→XW
open PySem.Challenge renaming pw_rookborders_k38_classes_and_rows→X5,rw_rookborders_k38_classes_and_rows→X6
open PySem.SetTable.probe renaming go→Yj
open Sum renaming inl→Yl,inr→jcd
open PySem.AutoSeq1 renaming sub_tuple_tuple→YC
open List.Perm renaming eq_of_pairwise→YH,swap→jcR
open PySem.Shared renaming TypeIs→YI
open PySem.Builtin.Dict renaming showsAll→Zz,keyAndDefault→jcY,dictSlotNone→jdg
open PySem.Builtin.Int renaming intBits→ZT
open PySem.Code renaming quiet_builtin→jaf
open PySem.SetTable.below renaming go→jaq
open PySem.IsTupleKey renaming typeIs→jat
open And renaming intro→jbn
open PySem.Manifest renaming owners→jbR
open PySem.SeqAt.RcNeAt renaming lists_lengths→jcD,tuples→jgp,lists→jha
open PySem.Fin renaming done→jcK
open String renaming ofList→jdH
open PyProof.Rows.IsTup renaming new→jdW
open PySem.W.Looks renaming now→jeb
open PySem.W.KatTups renaming cons→jeI
open PySem.pickOrder renaming go→jeQ
open PySem.SetTable.Slot renaming dummy→jgd
open PySem.Heap.IsSliceOf renaming new→jgS
open PySem.Walks renaming list→jhc
open List.Sublist renaming refl→jia
open Option renaming some→p5,none→ξ
open Bool renaming true→ζ,false→θ
open Decidable renaming decide→χ
local macro_rules|`(tactic|nofun)=>`(tactic|simp_all)
local macro_rules|`(command|def $i $s $v:declVal)=>`(command|noncomputable def $i $s $v:declVal)
local macro_rules|`(⋯)=>`(by lia)
local macro_rules|`(())=>`(by decide)
namespace Lake
noncomputable section
open PySem
theorem _root_.zk{p:Prop}[Decidable p]:(χ p=ζ)=p:=decide_eq_true_eq
theorem _root_.zm{p:Prop}[Decidable p]:p->decide p=true:=decide_eq_true
theorem _root_.zq{p:Prop}[Decidable p]:¬p->decide p=false:=decide_eq_false
abbrev z0:List PySem.Str:=["_law_script","_law_bag_here","_law_kind","_law_n","_law_square_here","_law_stands","_law_told","_law_stand","_law_around","_law_k","?_law_one","_law_one"]
abbrev A0:List PySem.Str:=["_law_script","_law_bag_here","_law_kind","_law_n","_law_square_here","_law_stands","_law_told","_law_stand","_law_around","_law_k","_law_one","_law_place","_law_other"]
abbrev B1:List PySem.Str:=["stand","a","b"]
abbrev B2:List PySem.Str:=["square","stand"]
abbrev B3:List PySem.Str:=["_law_bag_here","_law_n","_law_plain","_law_by","_law_rings","_law_crosses","_law_c","_law_d","_law_row"]
abbrev CD:List PySem.Str:=["_law_square_here","_law_crowd","_law_odd","?_law_stand","_law_a","_law_b","_law_heights","_law_stand"]
abbrev E1:List PySem.Str:=["square","stand","a","b"]
abbrev IH:List PySem.Str:=["_law_bag_here","_law_n"]
abbrev IY:List PySem.Str:=["_law_square_here","_law_stand","_law_a","_law_b"]
abbrev L1:List PySem.Str:=["_law_n","_law_found","_law_bar","_law_longer","_law_begun","_law_height"]
abbrev Qs:List PySem.Str:=["_law_square_here","_law_stands","_law_thing","_law_home","_law_stand"]
abbrev R0:List PySem.Str:=["_law_square_here","_law_stands","_law_thing"]
abbrev Sr:List PySem.Str:=["square","stand","a","b","rings","crosses","marked","column","row"]
abbrev S0:List PySem.Str:=["_law_square_here","_law_stand"]
abbrev S1:List PySem.Str:=["_law_bag_here","_law_by","_law_k","_law_rings","_law_column"]
abbrev xa0:List PySem.Str:=["one","other"]
abbrev xa1:List PySem.Str:=["_law_bag_here","_law_by","_law_k","_law_rings","_law_row"]
abbrev xa2:List PySem.Str:=["_law_stands","_law_thing"]
abbrev xa3:List PySem.Str:=["square","cycles","leads","homes","classes","stand"]
abbrev xa4:List PySem.Str:=["start","stands","cycles","leads"]
abbrev xa5:List PySem.Str:=["_law_one","_law_other"]
abbrev xa6:List PySem.Str:=["_law_square_here","_law_crowd"]
abbrev xa7:List PySem.Str:=["_law_script","_law_k"]
abbrev xa8:List PySem.Str:=["size","start","end"]
abbrev xa9:List PySem.Str:=["_law_bag_here","_law_many"]
theorem tf {n:Nat}{l:List Nat}(a:l.Nodup)(h: ∀z∈l,z<n):l.length<=n:=by
 have p:l.Perm ((R9 n).filter λz=>decide (z∈l)):=(Tg a (Vs _ Uf)).mpr λz=>by
  nofun
 rw[p.length_eq];exact Tk (UP _ _) (by simp)
def kC:Nat->Nat
 |0=>0
 |n+1=>5*kC n+1
theorem vt(m:Nat): ∀n,kC (m+n)=5^n*kC m+kC n
 |0=>by simp[kC]
 |n+1=>by
  show 5*kC (m+n)+1=_;rw[vt m n,XX];show _=5^n*5*kC m+(5*kC n+1);rw[Nat.mul_add,Nat.mul_right_comm,jap 5 (5^n*kC m)];rfl
theorem Bu: ∀n,kC n % 2=n % 2
 |0=>rfl
 |n+1=>by have:=Bu n;grind[kC]
theorem p8: ∀n,5^n=4*kC n+1
 |0=>rfl
 |n+1=>by rw[XX,p8 n];show _=4*(5*kC n+1)+1;lia
theorem RE(k a:Nat)(h:a % 2=1):Nat.Coprime (2^k) a:=by
 refine Nat.Coprime.pow_left k ?_
 show Nat.gcd 2 a=1;rw[Nat.gcd_rec,h];rfl
theorem Bs: ∀(k d:Nat),2^k∣kC d->2^k∣d
 |0,d,_=>by simp
 |k+1,d,h=>by
  have g:=Bu d;have i:2∣kC d:=Nat.dvd_trans ⟨2^k,by simp[XX,jap]⟩ h;obtain⟨e,rfl⟩: ∃e,d=e+e:=⟨d / 2,by grind⟩
  have b:kC (e+e)=2*(kC e*(2*kC e+1)):=by
   rw[vt,p8];grind
  rw[b,XX,jap] at h;have f:=Nat.dvd_of_mul_dvd_mul_left (by simp) h;have a:=(RE k (2*kC e+1) (by simp)).dvd_of_dvd_mul_right f;obtain⟨q,c⟩:=Bs k e a;exact⟨q,by rw[XX];rw[show 2^k*2*q=2^k*q+2^k*q by grind,<-c]⟩
def B0(M:Nat):Nat->Nat->Nat
 |0,i=>i
 |n+1,i=>(B0 M n i*5+1) % M
theorem vi(M i:Nat): ∀n,B0 M n i % M=(5^n*i+kC n) % M
 |0=>by simp[B0,kC]
 |n+1=>by
  show(B0 M n i*5+1) % M % M=_;rw[Nat.mod_mod,ZB,Nat.mul_mod,vi M i n,<-Nat.mul_mod,<-ZB];congr 1;grind[kC]
theorem IV {k i m d:Nat}(h:B0 (2^k) m i % 2^k=B0 (2^k) (m+d) i % 2^k):2^k∣d:=by
 rw[vi,vi,vt,Nat.pow_add] at h;have e:5^m*5^d*i+(5^d*kC m+kC d)=5^m*i+kC m+kC d*(4*(5^m*i+kC m)+1):=by
  rw[p8 d];generalize 5^m=a;generalize kC m=b;grind[kC]
 rw[e] at h;have c:(kC d*(4*(5^m*i+kC m)+1)) % 2^k=0:=by
  have f:=Nat.sub_mod_eq_zero_of_mod_eq h.symm;nofun
 exact Bs k d ((RE k _ (by grind)).dvd_of_dvd_mul_right (Nat.dvd_of_mod_eq_zero c))
theorem NB {k:Nat}{i:Nat}(p:i<2^k){j:Nat}(o:j<2^k): ∃n,n<2^k/\B0 (2^k) n i=j:=by
 have lt: ∀n,B0 (2^k) n i<2^k:=λn=>by
  cases n with
  |zero=>exact p
  |succ n=>exact UR _ (Nat.two_pow_pos k)
 have l:((R9 (2^k)).map λn=>B0 (2^k) n i).Nodup:=by
  rw[jcg,Uh];refine VC (λ{a b} q g c e=>?_) Ul;rw[SE] at g;obtain⟨d,rfl⟩:=Nat.exists_eq_add_of_lt c;have:=IV (k:=k) (i:=i) (m:=a) (d:=d+1) (by rw[show a+(d+1)=a+d+1 by rfl,<-e]);have:=Nat.le_of_dvd (by simp) this;omega
 by_cases h:j∈(R9 (2^k)).map λn=>B0 (2^k) n i
 ·nofun
 ·exfalso
  have f:=tf (n:=2^k) (TW.mpr ⟨h,l⟩) (λz hz=>by
   rcases SU.mp hz with rfl|hz
   ·exact o
   ·obtain⟨n,_,rfl⟩:=SM.mp hz;exact lt n)
  simp at f;grind
abbrev Pb:=SetTable.Probe
def AV(a:Nat)(p:Pb):Pb:=
 if p.more>0 then {p with j:=p.j+1,more:=p.more-1} else
 {p with j:=(WG a p.i p.perturb).1,more:=TF a (WG a p.i p.perturb).1- (WG a p.i p.perturb).1,i:=(WG a p.i p.perturb).1,perturb:=(WG a p.i p.perturb).2}
theorem zV(t:TK)(p:Pb):t.advance p=AV t.mask p:=rfl
theorem Dh(a:Nat)(p:Pb)(d:Option Nat):AV a {p with dummy:=d}={AV a p with dummy:=d}:=by
 unfold AV;dsimp only;split<;>rfl
def ke(a i perturb:Nat)(d:Option Nat):Pb:={j:=i,more:=TF a i-i,i:=i,perturb:=perturb,dummy:=d}
def dO(a:Nat):Nat->Pb->Pb
 |0,p=>p
 |n+1,p=>dO a n (AV a p)
theorem mF(a m:Nat): ∀(n:Nat) (p:Pb),dO a (n+m) p=dO a m (dO a n p)
 |0,p=>by rw[XY];rfl
 |n+1,p=>by rw[jeo];exact mF a m n (AV a p)
theorem ia(a n:Nat)(p:Pb):dO a (n+1) p=AV a (dO a n p):=mF a 1 n p
theorem kI(a:Nat)(d:Option Nat): ∀(n:Nat) (p:Pb),dO a n {p with dummy:=d}={dO a n p with dummy:=d}
 |0,p=>rfl
 |n+1,p=>by
  show dO a n (AV a {p with dummy:=d})=_;rw[Dh,kI a d n];rfl
theorem wt(a:Nat): ∀(n:Nat) (p:Pb),n<=p.more->dO a n p={p with j:=p.j+n,more:=p.more-n}
 |0,p,_=>rfl
 |n+1,p,h=>by
  show dO a n (AV a p)=_;have:AV a p={p with j:=p.j+1,more:=p.more-1}:=if_pos (by omega);rw[this,wt a n _ (by grind)];lia
theorem yn(a:Nat)(p:Pb):dO a (p.more+1) p=ke a ((p.i*5+1+p.perturb / 32) % (a+1)) (p.perturb / 32) p.dummy:=by
 rw[ia,wt a p.more p (Sn _)];unfold AV;dsimp only;rw[jep,if_neg (by simp)];rfl
theorem C0(a i perturb:Nat)(d:Option Nat):(ke a i perturb d).more<=9:=by
 show TF a i-i<=9;grind[TF]
def lp(a:Nat):Nat->Nat×Nat->Nat×Nat
 |0,x=>x
 |n+1,x=>lp a n ((x.1*5+1+x.2 / 32) % (a+1),x.2 / 32)
theorem AM(a:Nat)(d:Option Nat): ∀(n i perturb:Nat),∃m,m<=10*n/\dO a m (ke a i perturb d)=ke a (lp a n (i,perturb)).1 (lp a n (i,perturb)).2 d
 |0,i,perturb=>⟨0,by simp,rfl⟩
 |n+1,i,perturb=>by
  obtain⟨m,c,b⟩:=AM a d n ((i*5+1+perturb / 32) % (a+1)) (perturb / 32);have e:=C0 a i perturb d;refine⟨(ke a i perturb d).more+1+m,by grind,?_⟩;rw[mF,yn];exact b
theorem Ki {k a:Nat}(d:a+1=2^k): ∀(n i:Nat),lp a n (i,0)=(B0 (2^k) n i,0):=by
 have c: ∀(n:Nat) (x:Nat),B0 (2^k) n ((x*5+1) % 2^k)=B0 (2^k) (n+1) x:=by
  intro n
  induction n with
  |zero=>intro x;rfl
  |succ n b=>grind[B0]
 intro n
 induction n with
 |zero=>intro i;rfl
 |succ n b=>
  intro i;show lp a n ((i*5+1+0 / 32) % (a+1),0 / 32)=_;nofun
theorem HJ(a:Nat): ∀(m n:Nat) (x:Nat×Nat),lp a (m+n) x=lp a n (lp a m x)
 |0,n,x=>by rw[XY];rfl
 |m+1,n,x=>by rw[jeo];exact HJ a m n _
theorem Cj(a:Nat): ∀(n i perturb:Nat),(lp a n (i,perturb)).2=perturb / 32^n
 |0,i,perturb=>by simp[lp]
 |n+1,i,perturb=>by
  show(lp a n _).2=_;simp[Cj,Nat.div_div_eq_div_mul,Xu]
theorem K5(a:Nat): ∀(n:Nat) (x:Nat×Nat),x.1<=a->(lp a n x).1<=a
 |0,x,h=>h
 |n+1,x,_=>K5 a n _ (V6.mp (UR _ (by simp)))
theorem EY {k a:Nat}(c:a+1=2^k){i perturb:Nat}(d:i<=a)(h:perturb<2^64){j:Nat}(f:j<=a): ∃n,n<=13+a/\(lp a n (i,perturb)).1=j:=by
 have b:lp a 13 (i,perturb)=((lp a 13 (i,perturb)).1,0):=by
  have:=Cj a 13 i perturb;grind[Prod.ext]
 obtain⟨n,g,e⟩:=NB (k:=k) (i:=(lp a 13 (i,perturb)).1) (by have:=K5 a 13 (i,perturb) d;grind) (j:=j) ⋯;refine⟨13+n,⋯,?_⟩;rw[HJ,b,Ki c];exact e
def uU(a:Nat)(h:Int)(d:Option Nat):Pb:=ke a (Tt h % (a+1)) (Tt h) d
def Jx(a:Nat)(h:Int)(m:Nat):Nat:=(dO a m (uU a h ξ)).j
theorem MN(a:Nat)(h:Int)(m:Nat)(d:Option Nat):(dO a m (uU a h d)).j=Jx a h m:=by
 have:uU a h d={uU a h ξ with dummy:=d}:=rfl;rw[this,kI];rfl
theorem Co(h:Int):Tt h<2^64:=by
 simp[Tt,Z5]
theorem MG {k a:Nat}(b:a+1=2^k)(h:Int){j:Nat}(d:j<=a): ∃m,m<=10*(13+a)/\Jx a h m=j:=by
 obtain⟨n,f,e⟩:=EY b (i:=Tt h % (a+1)) (perturb:=Tt h) (V6.mp (UR _ (by simp))) (Co h) d;obtain⟨m,g,c⟩:=AM a ξ n (Tt h % (a+1)) (Tt h);refine⟨m,by grind,?_⟩;show(dO a m (ke a (Tt h % (a+1)) (Tt h) ξ)).j=j;rw[c];exact e
def Ris(xs:Array Nat):Prop:=xs.toList.Pairwise (·< ·)
theorem Ris.lt(r:Ris xs){i j:Nat}(c:i<j)(e:xs[i]? =p5 a)(d:xs[j]? =p5 b):a<b:=by
 rw[<-Tc] at e d;obtain⟨f,h⟩:=Sz.mp e;obtain⟨g,k⟩:=Sz.mp d;have:=T9.mp r i j f g c;nofun
theorem Ris.inj(r:Ris xs){i j:Nat}(c:xs[i]? =p5 a)(b:xs[j]? =p5 a):i=j:=by
 rcases Vt i j with h|h|h
 ·exact absurd (r.lt h c b) ⋯
 ·exact h
 ·exact absurd (r.lt h b c) (by simp)
structure Bel(xs:Array Nat)(j p:Nat):Prop where
 le:p<=xs.size
 lo: ∀i a,i<p->xs[i]? =p5 a->a<j
 hi: ∀i a,p<=i->xs[i]? =p5 a->j<=a
theorem zv {xs:Array Nat}(r:Ris xs)(j:Nat): ∀(fuel d b:Nat),b-d<=fuel->d<=b->b<=xs.size->(∀i a,i<d->xs[i]? =p5 a->a<j)->(∀i a,b<=i->xs[i]? =p5 a->j<=a)->Bel xs j (jaq xs j fuel d b)
 |0,d,b,o,s,g,h,k=>by
  have:d=b:=by grind
  subst this;exact⟨g,h,k⟩
 |fuel+1,d,b,o,s,g,h,k=>by
  unfold jaq
  by_cases f:d<b
  ·rw[if_pos f];dsimp only;have q:(d+b) / 2<xs.size:=by lia
   have n:xs[(d+b) / 2]? =p5 xs[(d+b) / 2]:=Td q;have p:xs.getD ((d+b) / 2) j=xs[(d+b) / 2]:=by nofun
   rw[p]
   by_cases c:xs[(d+b) / 2]<j
   ·rw[if_pos c];refine zv r j fuel _ b ⋯ ⋯ g (λi a m l=>?_) k
    by_cases e:i=(d+b) / 2
    ·nofun
    ·exact YZ (r.lt ⋯ l n) c
   ·rw[if_neg c];refine zv r j fuel d _ (by grind) (by omega) ⋯ h (λi a m l=>?_)
    by_cases e:i=(d+b) / 2
    ·nofun
    ·have:=r.lt (by grind) n l;grind
  ·rw[if_neg f];have:d=b:=by lia
   subst this;exact⟨g,h,k⟩
theorem Pv(r:Ris xs)(j:Nat):Bel xs j (SY xs j):=zv r j _ _ _ (by simp) (by simp) (by simp) (λi a h _=>absurd h (by simp)) λi a h e=>by
 nofun
theorem uX(r:Ris xs){j i:Nat}(h:xs[i]? =p5 j):SY xs j=i:=by
 have b:=Pv r j;rcases Vt i (SY xs j) with c|c|c
 ·exact absurd (b.lo i j c h) (by simp)
 ·exact c.symm
 ·have lt:SY xs j<xs.size:=YZ c (T4.mp h).1;have e:xs[SY xs j]? =p5 xs[SY xs j]:=Td lt;have a:=b.hi _ _ (Sn _) e;have d:=r.lt c e h;lia
theorem jI {xs:Array Nat}(r:Ris xs)(j:Nat):XZ xs j=ζ↔j∈xs.toList:=by
 unfold XZ;rw[beq_iff_eq];constructor
 ·intro h;rw[<-Tc] at h;exact S5 h
 ·intro h;obtain⟨i,a⟩:=Tz.mp h;rw[Tc] at a;rw[uX r a];exact a
structure TOk(t:TK)(hs:List Int):Prop where
 pw: ∃k,3<=k/\k<=12/\t.mask+1=2^k
 sz:t.place.size=hs.length
 sp:Ris t.place
 sd:Ris t.dummies
 lp: ∀j∈t.place.toList,j<=t.mask
 ld: ∀j∈t.dummies.toList,j<=t.mask
 dj: ∀j∈t.dummies.toList,j∉t.place.toList
 fl:t.fill<=t.mask
 rc: ∀x∈hs.zip t.place.toList,∃m,Jx t.mask x.1 m=x.2/\ ∀m',m'<m->Jx t.mask x.1 m'∈t.place.toList\/Jx t.mask x.1 m'∈t.dummies.toList
def sX(t:TK)(j:Nat):Prop:=j∈t.place.toList\/j∈t.dummies.toList
section
variable {t:TK}{hs:List Int}(T:TOk t hs)
include T
theorem TOk.mask:t.mask<=4095:=by
 obtain⟨k,b,a,e⟩:=T.pw;have:=Uj (n:=2) (by simp) a;omega
theorem TOk.noway:t.gaveWay=false:=by
 obtain⟨k,b,a,e⟩:=T.pw;unfold SetTable.gaveWay;grind
theorem nv(h:t.place[i]? =p5 j):t.slot j=.live i:=by
 unfold ZX;rw[uX T.sp h,if_pos (by nofun)]
theorem qy(h:j∈t.dummies.toList):t.slot j=.dummy:=by
 unfold ZX;have e: ¬(t.place[SY t.place j]? ==p5 j)=true:=λw=>by
  rw[beq_iff_eq,<-Tc] at w;exact T.dj j h (S5 w)
 dsimp only;rw[if_neg e,if_pos ((jI T.sd j).mpr h)]
theorem z7(h: ¬sX t j):t.slot j=.empty:=by
 unfold ZX;have e: ¬(t.place[SY t.place j]? ==p5 j)=true:=λw=>by
  rw[beq_iff_eq,<-Tc] at w;exact h (.inl (S5 w))
 dsimp only;rw[if_neg e,if_neg λw=>h (.inr ((jI T.sd j).mp w))]
theorem TOk.room: ∃j,j<=t.mask/\ ¬sX t j:=by
 refine Ua λh=>?_
 have d: ∀j,j<=t.mask->sX t j:=λj c=>Ua λn=>h ⟨j,c,n⟩
 have l:(t.place.toList++t.dummies.toList).Nodup:=by
  refine Th.mpr ⟨T.sp.imp λh=>SW h,T.sd.imp λh=>SW h,λa f b g e=>?_⟩;subst e;exact T.dj _ g f
 have:t.mask+1<=(t.place.toList++t.dummies.toList).length:=by
  have k:(R9 (t.mask+1)).length<=(t.place.toList++t.dummies.toList).length:=by
   refine VN Uf λj c=>?_
   rw[SE] at c;rw[SL];exact d j ⋯
  nofun
 have i:=T.fl;unfold ZY at i;grind[SV]
theorem TOk.first(h:Int): ∃M,M<=10*(13+t.mask)/\ ¬sX t (Jx t.mask h M)/\ ∀m,m<M->sX t (Jx t.mask h m):=by
 obtain⟨k,_,_,e⟩:=T.pw;obtain⟨j,i,p⟩:=T.room;obtain⟨m,b,o⟩:=MG e h i;have g: ∀n,(∃m,m<=n/\ ¬sX t (Jx t.mask h m))-> ∃M,M<=n/\ ¬sX t (Jx t.mask h M)/\ ∀m,m<M->sX t (Jx t.mask h m):=by
  intro n
  induction n with
  |zero=>rintro⟨m,b,q⟩;nofun
  |succ n l=>
   rintro⟨m,b,q⟩
   by_cases c: ∃m,m<=n/\ ¬sX t (Jx t.mask h m)
   ·obtain⟨M,f,d,a⟩:=l c;exact⟨M,⋯,d,a⟩
   ·have:m=n+1:=Ua λw=>c ⟨m,⋯,q⟩
    grind
 obtain⟨M,f,d,a⟩:=g (10*(13+t.mask)) ⟨m,b,by nofun⟩;exact⟨M,f,d,a⟩
end
def PH(t:TK)(h:Int)(M:Nat)(d:Option Nat):Prop:= ∀x,d=p5 x->x∈t.dummies.toList/\ ∃m,m<M/\Jx t.mask h m=x
def NN(t:TK)(Xl:Nat->Int)(h:Int)(m n:Nat):Prop:= ∀a,m<=a->a<n-> ∀i:Nat,t.place[i]? =p5 (Jx t.mask h a)->Xl i≠h
theorem vJ(a:Nat)(h:Int)(m:Nat)(d:Option Nat):dO a m (uU a h d)=⟨Jx a h m,(dO a m (uU a h ξ)).more,(dO a m (uU a h ξ)).i,(dO a m (uU a h ξ)).perturb,d⟩:=kI a d m (uU a h ξ)
section
variable {t:TK}{hs:List Int}(T:TOk t hs)
include T
theorem ql(Xl:Nat->Int)(p: ¬sX t (Jx t.mask h M))(s: ∀m,m<M->sX t (Jx t.mask h m)): ∀(fuel m:Nat) (d:Option Nat),M<m+fuel->m<=M->PH t h M d->
 ∃r,Yj t Xl h fuel (dO t.mask m (uU t.mask h d))=p5 r/\
  ((∃d',r=.empty (Jx t.mask h M) d'/\PH t h M d'/\NN t Xl h m M)\/
   (∃c i d',m<=c/\c<M/\t.place[i]? =p5 (Jx t.mask h c)/\Xl i=h/\r=.candidate (Jx t.mask h c) i (dO t.mask (c+1) (uU t.mask h d'))/\PH t h M d'/\NN t Xl h m c))
 |0,m,d,B,C,_=>absurd B ⋯
 |fuel+1,m,d,B,C,u=>by
  unfold Yj;rw[MN]
  by_cases D:m=M
  ·subst D;rw[z7 T p];have F:(dO t.mask m (uU t.mask h d)).dummy=d:=by rw[vJ]
   exact⟨_,rfl,.inl ⟨d,by rw[F],u,λg a b=>absurd a (by grind)⟩⟩
  ·have lt:m<M:=by lia
   rcases s m lt with j|j
   ·obtain⟨i,o⟩:=Tz.mp j;rw[Tc] at o;rw[nv T o];dsimp only
    by_cases k:Xl i=h
    ·rw[if_pos (beq_iff_eq.mpr k),zV,<-ia];exact⟨_,rfl,.inr ⟨m,i,d,Sn _,lt,o,k,rfl,u,λg a b=>absurd a ⋯⟩⟩
    ·rw[if_neg (λw=>k (beq_iff_eq.mp w)),zV,<-ia];obtain⟨r,A,z⟩:=ql Xl p s fuel (m+1) d ⋯ ⋯ u;have v: ∀n,NN t Xl h (m+1) n->NN t Xl h m n:=λn q g a b l f=>by
      by_cases e:g=m
      ·subst e;rw[T.sp.inj f o];exact k
      ·exact q g ⋯ b l f
     refine⟨r,A,?_⟩;rcases z with⟨d',e,y,q⟩|⟨c,l,d',a,b,G,I,H,y,q⟩
     ·exact .inl ⟨d',e,y,v _ q⟩
     ·grind
   ·rw[qy T j];dsimp only;have e:(⟨Jx t.mask h m,(dO t.mask m (uU t.mask h d)).more,(dO t.mask m (uU t.mask h d)).i,(dO t.mask m (uU t.mask h d)).perturb,p5 (Jx t.mask h m)⟩:Pb)=dO t.mask m (uU t.mask h (p5 (Jx t.mask h m))):=by
     rw[vJ,vJ t.mask h m (p5 _)]
    rw[zV,e,<-ia];obtain⟨r,A,z⟩:=ql Xl p s fuel (m+1) (p5 (Jx t.mask h m)) ⋯ ⋯ (λx E=>by cases E;exact⟨j,m,lt,rfl⟩);have v: ∀n,NN t Xl h (m+1) n->NN t Xl h m n:=λn q g a b l f=>by
     by_cases e:g=m
     ·subst e;exact absurd (S5 (by rw[Tc];exact f)) (T.dj _ j)
     ·exact q g ⋯ b l f
    grind
end
theorem eZ {α:Type}(xs:Array α)(p:Nat):(Tw xs p).toList=xs.toList.eraseIdx p:=by
 simp[Tw,Xd,Y0]
theorem uf {l:List Nat}(r:l.Pairwise (·< ·))(f:l[p]? =p5 j)(x:Nat):x∈l.eraseIdx p↔x∈l/\x≠j:=by
 rw[Xm];constructor
 ·rintro⟨i,b,e⟩;refine⟨S5 e,λw=>b ?_⟩;subst w;obtain⟨a,k⟩:=Sz.mp e;obtain⟨d,m⟩:=Sz.mp f;rcases Vt i p with c|c|c
  ·have:=T9.mp r i p a d c;nofun
  ·exact c
  ·have:=T9.mp r p i d a c;nofun
 ·rintro⟨h,b⟩;obtain⟨i,g⟩:=Tz.mp h;exact⟨i,λw=>by nofun,g⟩
theorem pV {xs:Array Nat}(r:Ris xs)(n:j∉xs.toList):Ris (Tp xs (SY xs j) j):=by
 have b:=Pv r j;unfold Ris;rw[Ug,Wm];have g: ∀a∈xs.toList.take (SY xs j),a<j:=λa e=>by
  obtain⟨i,d⟩:=Tz.mp e;rw[List.getElem?_take] at d;split at d
  ·rename_i c;rw[Tc] at d;exact b.lo i a c d
  nofun
 have f: ∀a∈xs.toList.drop (SY xs j),j<a:=λa e=>by
  obtain⟨i,d⟩:=Tz.mp e;rw[List.getElem?_drop] at d;have h:=S5 d;rw[Tc] at d;have:=b.hi _ a (VO _ _) d;grind
 refine⟨We (jar _ _) r,?_,λa e c k=>?_⟩
 ·exact US.mpr ⟨f,We (List.drop_sublist _ _) r⟩
 grind
theorem rO {α:Type}(xs:Array α)(p:Nat)(x y:α):y∈(Tp xs p x).toList↔y=x\/y∈xs.toList:=by
 rw[Ug,SL,SU];grind[Zo]
def fx {α:Type}(l:List α)(p:Nat)(x:α):List α:=l.take p++x::l.drop p
theorem Il {α β:Type}(l:List α)(m:List β)(p:Nat)(a:α)(b:β)(h:l.length=m.length):(fx l p a).zip (fx m p b)=fx (l.zip m) p (a,b):=by
 unfold fx;rw[List.zip_append (by nofun),WQ];simp[List.zip,List.take_zipWith,List.drop_zipWith]
theorem TOk.put {t:TK}(T:TOk t hs)(r:j<=t.mask)(n:j∉t.place.toList)(u: ∃m,Jx t.mask h m=j/\ ∀b,b<m->sX t (Jx t.mask h b))
 (p:(t.put j).1.fill<=t.mask):TOk (t.put j).1 (fx hs (t.put j).2 h):=by
 have g:(t.put j).1.place.toList=fx t.place.toList (t.put j).2 j:=Ug _ _ _;have d: ∀y,y∈(t.put j).1.place.toList↔y=j\/y∈t.place.toList:=rO t.place _ j
 have o: ∀y,y∈(t.put j).1.dummies.toList↔y∈t.dummies.toList/\y≠j:=λy=>by
  show y∈(if XZ t.dummies j=ζ then Tw t.dummies (SY t.dummies j) else t.dummies).toList↔_;split
  ·rename_i c
   have s:=(jI T.sd j).mp c;obtain⟨i,k⟩:=Tz.mp s;rw[eZ,uX T.sd (by rw[<-Tc];exact k)];exact uf T.sd k y
  ·rename_i c
   exact⟨λq=>⟨q,λw=>c ((jI T.sd j).mpr (w▸q))⟩,λq=>q.1⟩
 have us: ∀y,sX t y->y∈(t.put j).1.place.toList\/y∈(t.put j).1.dummies.toList:=λy q=>by
  rcases q with q|q
  ·exact .inl ((d y).mpr (.inr q))
  grind
 refine⟨T.pw,?_,pV T.sp n,?_,λy q=>?_,λy q=>T.ld y ((o y).mp q).1,λy q w=>?_,p,λx a=>?_⟩
 ·rw[<-SV,g];unfold fx;have:=T.sz;nofun
 ·show Ris (if XZ t.dummies j=ζ then Tw t.dummies (SY t.dummies j) else t.dummies);split
  ·unfold Ris;rw[eZ];exact We (Vn _ _) T.sd
  ·exact T.sd
 ·rcases(d y).mp q with rfl|q
  ·exact r
  ·exact T.lp y q
 ·have l:=(o y).mp q;rcases(d y).mp w with rfl|w
  ·exact l.2 rfl
  ·exact T.dj y l.1 w
 ·rw[g,Il _ _ _ _ _ (by rw[SV];exact T.sz.symm)] at a;unfold fx at a;have a:x=(h,j)\/x∈hs.zip t.place.toList:=by
   grind[ZC]
  rcases a with rfl|a
  ·obtain⟨m,e,q⟩:=u;exact⟨m,e,λb f=>us _ (q b f)⟩
  ·obtain⟨m,e,q⟩:=T.rc x a;exact⟨m,e,λb f=>us _ (q b f)⟩
theorem TOk.drop {t:TK}{b:List Int}(T:TOk t b)(l:t.place[i]? =p5 j):TOk (t.drop i) (b.eraseIdx i):=by
 have z:t.drop i={t with place:=Tw t.place i,dummies:=Tp t.dummies (SY t.dummies j) j}:=by
  unfold jdl;rw[l]
 have a:t.place.toList[i]? =p5 j:=by nofun
 have r:j∈t.place.toList:=S5 a;have lt:i<t.place.size:=(T4.mp l).1;rw[z];have d:(Tw t.place i).toList=t.place.toList.eraseIdx i:=eZ _ _;have h: ∀y,y∈(Tw t.place i).toList↔y∈t.place.toList/\y≠j:=λy=>by rw[d];exact uf T.sp a y
 have f:=rO t.dummies (SY t.dummies j) j;have us: ∀y,sX t y->y∈(Tw t.place i).toList\/y∈(Tp t.dummies (SY t.dummies j) j).toList:=λy q=>by
  rcases q with q|q
  ·by_cases e:y=j
   ·exact .inr ((f y).mpr (.inl e))
   ·exact .inl ((h y).mpr ⟨q,e⟩)
  ·exact .inr ((f y).mpr (.inr q))
 refine⟨T.pw,?_,?_,pV T.sd λw=>T.dj j w r,λy q=>T.lp y ((h y).mp q).1,λy q=>?_,λy q w=>?_,?_,λx o=>?_⟩
 ·show(Tw t.place i).size=_;rw[<-SV,d,UZ,UZ,SV,T.sz]
 ·show Ris (Tw t.place i);unfold Ris;rw[d];exact We (Vn _ _) T.sp
 ·rcases(f y).mp q with rfl|q
  ·exact T.lp y r
  ·exact T.ld y q
 ·have k:=(h y).mp w;rcases(f y).mp q with rfl|q
  ·exact k.2 rfl
  ·exact T.dj y q k.1
 ·show(Tw t.place i).size+(Tp t.dummies (SY t.dummies j) j).size<=t.mask;have s:=T.fl;unfold ZY at s;rw[<-SV,d,UZ,<-SV (xs:=Tp _ _ _),Ug,if_pos (by omega)];simp;lia
 ·have o:x∈(b.eraseIdx i).zip (t.place.toList.eraseIdx i):=by nofun
  have:x∈b.zip t.place.toList:=by
   obtain⟨n,p⟩:=Tz.mp o;rw[UN,Y1,Y1] at p;obtain⟨g,c⟩:=p;split at g
   ·rw[if_pos (by omega)] at c;exact Tz.mpr ⟨n,UN.mpr ⟨g,c⟩⟩
   ·rw[if_neg (by omega)] at c;exact Tz.mpr ⟨n+1,UN.mpr ⟨g,c⟩⟩
  obtain⟨m,e,q⟩:=T.rc x this;exact⟨m,e,λv u=>us _ (q v u)⟩
abbrev nY:=Array (Option Nat)
def HY(a:nY)(j:Nat):Prop:=a[j]? =p5 ξ
def J6(a:nY)(j:Nat):Prop:= ∃k,a[j]? =p5 (p5 k)
theorem uT {a:nY}:(a.getD j (p5 0)).isNone=ζ↔HY a j:=by
 unfold HY Z6
 by_cases h:j<a.size
 ·nofun
 ·simp[h]
theorem zn {a:nY}(h:j<a.size)(n: ¬HY a j):J6 a j:=by
 unfold HY at n;unfold J6;rw[Td h] at n⊢;cases e:a[j] with
 |none=>nofun
 |some k=>exact⟨k,rfl⟩
def Jl(a i p m:Nat):Nat:=(dO a m (ke a i p ξ)).j
theorem nX(a:i<=mask):TF mask i<=mask/\i<=TF mask i:=by
 grind[TF]
theorem y9(h:i+m<=TF mask i):Jl mask i p m=i+m:=by
 unfold Jl;rw[wt mask m _ (show m<=TF mask i-i by grind)];rfl
theorem BY(a i p m:Nat):Jl a i p ((TF a i-i)+1+m)=Jl a ((i*5+1+p / 32) % (a+1)) (p / 32) m:=by
 unfold Jl;rw[mF];have:=yn a (ke a i p ξ);have e:(ke a i p ξ).more=TF a i-i:=rfl;rw[e] at this;rw[this];rfl
theorem AT{b:nY}(hz:b.size=mask+1): ∀(fuel i p:Nat),i<=mask->(∃n,n<fuel/\HY b (lp mask n (i,p)).1)->
 ∃j m,UI mask b fuel i p=p5 j/\HY b j/\Jl mask i p m=j/\ ∀a,a<m->J6 b (Jl mask i p a)
 |0,i,p,_,⟨n,h,_⟩=>absurd h (WM _)
 |fuel+1,i,p,s,⟨n,h,g⟩=>by
  have v:=nX s;unfold UI;cases e:(R9 (TF mask i+1-i)).find? λk=>(b.getD (i+k) (p5 0)).isNone with
  |some k=>
   have l:=jbM e;have f:k<TF mask i+1-i:=SE.mp (WA e);refine⟨i+k,k,rfl,uT.mp l,y9 (by omega),λa d=>?_⟩;rw[y9 (by grind)];refine zn (by grind) λw=>?_
   rw[List.find?_range_eq_some] at e;have:=e.2.2 a d;rw[uT.mpr w] at this;nofun
  |none=>
   have no: ∀k,k<TF mask i+1-i-> ¬HY b (i+k):=λk f w=>by
    have:=Z7.mp e k (SE.mpr f);exact this (uT.mpr w)
   dsimp only;obtain⟨j,m,t,o,q,r⟩:=AT hz fuel ((i*5+1+p / 32) % (mask+1)) (p / 32) (V6.mp (UR _ (by simp))) (by
    cases n with
    |zero=>exact absurd g (no 0 (by omega))
    |succ n=>exact⟨n,by nofun,g⟩)
   refine⟨j,(TF mask i-i)+1+m,t,o,by rw[BY];exact q,λa d=>?_⟩
   by_cases c:a<=TF mask i-i
   ·rw[y9 (by omega)];exact zn (by grind) (no a (by grind))
   ·obtain⟨u,rfl⟩:=Nat.exists_eq_add_of_le (show TF mask i-i+1<=a by lia);rw[BY];exact r u (by nofun)
structure u4(mask:Nat)(ow:nY)(hs:List Int):Prop where
 sz:ow.size=mask+1
 lt: ∀(j k:Nat),ow[j]? =p5 (p5 k)->k<hs.length
 un: ∀(j j' k:Nat),ow[j]? =p5 (p5 k)->ow[j']? =p5 (p5 k)->j=j'
 ex: ∀(k:Nat) (h:Int),hs[k]? =p5 h-> ∃j m:Nat,ow[j]? =p5 (p5 k)/\Jx mask h m=j/\ ∀m',m'<m->J6 ow (Jx mask h m')
theorem u4.room{d:List Int}(I:u4 mask ow d)(q:d.length<=mask): ∃j,j<=mask/\HY ow j:=by
 refine Ua λh=>?_
 have g: ∀j,j<=mask->J6 ow j:=λj c=>zn (by rw[I.sz];lia) λw=>h ⟨j,c,w⟩
 let f:Nat->Nat:=λj=>((ow[j]?).getD ξ).getD 0
 have i: ∀j,j<=mask->ow[j]? =p5 (p5 (f j)):=λj c=>by
  obtain⟨k,e⟩:=g j c;show _=p5 (p5 (((ow[j]?).getD ξ).getD 0));rw[e];rfl
 have p:((R9 (mask+1)).map f).Nodup:=by
  rw[jcg,Uh];refine VC (λ{a b} l o m e=>?_) Ul;rw[SE] at l o;have:=I.un a b (f a) (i a ⋯) (by rw[e];exact i b ⋯);nofun
 have:=tf p (n:=d.length) λz hz=>by
  obtain⟨j,c,rfl⟩:=SM.mp hz;exact I.lt j _ (i j (by rw[SE] at c;grind))
 simp at this;lia
theorem HF {k a:Nat}(H:a+1=2^k){g:nY}{f:List Int}(I:u4 a g f)(A:f.length<=a)(h:Int):
 ∃j,UI a g (Vh a) (Tt h % (a+1)) (Tt h)=p5 j/\u4 a (g.setIfInBounds j (p5 f.length)) (f++[h]):=by
 obtain⟨M,E,F⟩:=I.room A;have u:Tt h % (a+1)<=a:=V6.mp (UR _ (by simp));obtain⟨n,L,e⟩:=EY H u (Co h) E;obtain⟨j,m,D,o,v,y⟩:=AT I.sz (Vh a) _ _ u ⟨n,by unfold Vh;grind,by rw[e];exact F⟩;have K:j<g.size:=by
  unfold HY at o;exact(T4.mp o).1
 have l: ∀x,(g.setIfInBounds j (p5 f.length))[x]? =if j=x then p5 (p5 f.length) else g[x]? :=λx=>by
  grind
 have i: ∀x,J6 g x->J6 (g.setIfInBounds j (p5 f.length)) x:=λx s=>by
  obtain⟨q,b⟩:=s;unfold J6;rw[l];split
  ·exact⟨_,rfl⟩
  ·exact⟨q,b⟩
 refine⟨j,D,by rw[Array.size_setIfInBounds];exact I.sz,λx q b=>?_,λx B q b d=>?_,λq z hz=>?_⟩
 ·rw[l] at b;rw[SG,TX];split at b
  ·nofun
  ·have:=I.lt x q b;lia
 ·rw[l] at b d;split at b
  ·rename_i c
   cases b;split at d
   ·nofun
   ·have:=I.lt _ _ d;nofun
  ·split at d
   ·cases d;have:=I.lt _ _ b;nofun
   ·exact I.un x B q b d
 ·by_cases c:q<f.length
  ·rw[Tu c] at hz;obtain⟨x,p,G,J,C⟩:=I.ex q z hz;refine⟨x,p,?_,J,λr t=>i _ (C r t)⟩;rw[l,if_neg λw=>?_]
   ·exact G
   ·subst w;unfold HY at o;lia
  ·have b:q=f.length:=by
    grind[TX]
   subst b;rw[T5 (Sn _),jep] at hz;cases hz;exact⟨j,m,by nofun,v,λp t=>i _ (y p t)⟩
theorem A7(f:mask+1=2^k): ∀(a b:List Int) (d:nY),u4 mask d b->b.length+a.length<=mask+1->
 ∃c,a.foldl (λacc h=>do
  let(owner,k) <-acc
  let j <-UI mask owner (Vh mask) (Tt h % (mask+1)) (Tt h)
  pure (owner.setIfInBounds j (p5 k),k+1)) (p5 (d,b.length))=p5 (c,b.length+a.length)/\u4 mask c (b++a)
 | [],b,d,I,_=>⟨d,rfl,by nofun⟩
 |h::a,b,d,I,m=>by
  rw[SN] at m;obtain⟨j,e,l⟩:=HF f I ⋯ h;obtain⟨c,g,i⟩:=A7 f a (b++[h]) _ l (by rw[SG,TX];lia);rw[SG,TX] at g;refine⟨c,?_,by rw[W1] at i;exact i⟩
  rw[V7];have:(do
   let(owner,k) <-some (d,b.length)
   let j <-UI mask owner (Vh mask) (Tt h % (mask+1)) (Tt h)
   pure (owner.setIfInBounds j (p5 k),k+1):Option (nY×Nat))=p5 (d.setIfInBounds j (p5 b.length),b.length+1):=by
   show(UI mask d (Vh mask) (Tt h % (mask+1)) (Tt h)).bind (λj=>p5 (d.setIfInBounds j (p5 b.length),b.length+1))=_;rw[e];rfl
  rw[this,g,SN];congr 2;omega
theorem CO(a:Nat):u4 a (jbN (a+1) ξ) [] where
 sz:=by simp
 lt:=λj k h=>by
  rw[Yx] at h;nofun
 un:=λj b k h=>by
  simp[Yx]
 ex:=λk h e=>by simp at e
def iP(a:Nat)(b:nY):List (Nat×Nat):=(R9 (a+1)).filterMap λj=>(b.getD j ξ).map (j, ·)
theorem ER {a:Nat}{b:nY}(hz:b.size=a+1){x:Nat×Nat}:x∈iP a b↔b[x.1]? =p5 (p5 x.2):=by
 unfold iP;rw[X7];constructor
 ·rintro⟨j,c,e⟩;rw[SE] at c;have:j<b.size:=by nofun
  simp only[Z6,this,dite_true] at e;obtain⟨k,f,rfl⟩:=SO.mp e;nofun
 ·intro h;obtain⟨d,g⟩:=T4.mp h;refine⟨x.1,SE.mpr (by omega),?_⟩;nofun
theorem yr(a:Nat)(b:nY):((iP a b).map (·.1)).Pairwise (·< ·):=by
 unfold iP;have: ∀l:List Nat,(l.filterMap λj=>(b.getD j ξ).map (j, ·)).map (·.1)=l.filter λj=>(b.getD j ξ).isSome:=by
  intro l
  induction l with
  |nil=>rfl
  |cons j l c=>
   rw[XT,jbb];cases e:b.getD j none with
   |none=>exact c
   |some k=>show j::_=_;rw[c];rfl
 rw[this];exact Vs _ Ul
theorem Bl(D:3<=k)(u:k<=12)(A:mask+1=2^k)(c f:Nat)(led plain:Bool)(n:Array Int)(N:n.size<=mask):
 ∃l d:Array Nat,Yy mask c f led plain n=p5 (⟨mask,l, #[],c,led,f,plain⟩,d)/\d.toList.Perm (R9 n.size)/\
  TOk ⟨mask,l, #[],c,led,f,plain⟩ (d.toList.map λk=>n.toList.getD k 0):=by
 obtain⟨i,e,I⟩:=A7 A n.toList [] _ (CO mask) (by simp;lia);rw[XE] at I;have p:jas mask n=p5 i:=by
  unfold jas;rw[<-Array.foldl_toList];have e:n.toList.foldl _ (p5 (jbN (mask+1) ξ,0))=_:=e;rw[e];rfl
 have g:= @ER mask i I.sz;have B:((iP mask i).map (·.2)).Nodup:=by
  rw[jcg,Uh];have:=yr mask i;rw[Uh] at this;refine this.imp_of_mem λ{a b} C J E w=>?_
  have s:=g.mp C;have z:=g.mp J;rw[<-w] at z;have:=I.un _ _ _ s z;nofun
 have v: ∀k,k∈(iP mask i).map (·.2)↔k∈R9 n.size:=λk=>by
  rw[SM,SE];constructor
  ·rintro⟨x,o,rfl⟩;have:=I.lt _ _ (g.mp o);omega
  ·intro h;obtain⟨j,m,s,_⟩:=I.ex k (n.toList[k]'(by omega)) (Su _);exact⟨(j,k),g.mpr s,rfl⟩
 have H: ∀x,J6 i x->x∈(iP mask i).map (·.1):=λx ⟨q,K⟩=>SM.mpr ⟨(x,q),g.mpr K,rfl⟩
 refine⟨((iP mask i).map (·.1)).toArray,((iP mask i).map (·.2)).toArray,?_,?_,⟨k,D,u,A⟩,?_,?_,?_,?_,?_,?_,?_,?_⟩
 ·unfold Yy;rw[p];rfl
 ·exact(Tg B Uf).mpr v
 ·simp
 ·exact yr mask i
 ·exact Wh
 ·intro j t;obtain⟨x,o,rfl⟩:=SM.mp t;have:=(T4.mp (g.mp o)).1;show x.1<=mask;rw[I.sz] at this;lia
 ·intro j t;nofun
 ·intro j t;nofun
 ·show((iP mask i).map (·.1)).toArray.size+0<=mask;have M:=((Tg B Uf).mpr v).length_eq;nofun
 ·intro x o;have o:x∈((((iP mask i).map (·.2)).map λk=>n.toList.getD k 0)).zip ((iP mask i).map (·.1)):=o;rw[SJ,List.zip_map'] at o;obtain⟨y,G,rfl⟩:=SM.mp o;have r:=g.mp G;have lt:=I.lt _ _ r;obtain⟨j,m,F,P,O⟩:=I.ex y.2 (n.toList[y.2]'lt) (Su _);have L:=I.un _ _ _ F r;grind
theorem lK: ∀(fuel s n:Nat),n<s*2^fuel-> ∃e,e<=fuel/\Xf n fuel s=s*2^e/\n<s*2^e/\(e=0\/s*2^e<=2*n)
 |0,s,n,h=>⟨0,by simp,by simp[Xf],h,.inl rfl⟩
 |fuel+1,s,n,h=>by
  unfold Xf
  by_cases c:s<=n
  ·rw[if_pos c];obtain⟨e,f,d,b,a⟩:=lK fuel (s*2) n (by rw[Xu] at h;rw[Yz];exact h);refine⟨e+1,by nofun,by rw[d,Xu,Yz],by rw[Xu,<-Yz];exact b,.inr ?_⟩;rw[Xu,<-Yz];rcases a with rfl|a
   ·simp;grind
   omega
  ·rw[if_neg c];exact⟨0,by simp,by simp,by simp;nofun,.inl rfl⟩
theorem iI(d:n<=4095): ∃k,3<=k/\k<=12/\TB n=2^k/\n<2^k:=by
 obtain⟨e,g,f,h,a⟩:=lK 64 8 n (SK d (by simp));have b:8*2^e=2^(3+e):=by rw[Nat.pow_add]
 refine⟨3+e,by simp,?_,f.trans b,by nofun⟩;rcases a with rfl|a
 ·simp
 ·refine Ua λc=>?_
  have:=Uj (n:=2) (by simp) (show 13<=3+e by lia);rw[<-b] at this;have:(2:Nat)^13=8192:=by simp
  grind
open PySem PySem.Spec PyProof.Rows
def th(ks:List Int):Int:=reduceHash (jdc (ks.map hashInt))
abbrev KI(prog:SS)(w:Tf):HeapKind prog w (List Int):=WU (intKind prog w)
theorem A3(prog:SS)(w:Tf)(ks:List Int):(KI prog w).hash ks=th ks:=rfl
def sF(x:List Int×Addr):Int×Value:=(th x.1,.ref x.2)
abbrev eM:=List (List Int×Addr)
def rn(xs:eM):List Int:=xs.map λx=>th x.1
def mW(prog:SS)(w:Tf)(h:Heap)(xs:eM):Prop:= ∀x∈xs,(KI prog w).is h x.1 x.2
structure SetAt(w:Tf)(o:Obj)(es:Array (Int×Sb))(ep:Nat)(t:TK)(xs:eM):Prop where
 ex:o.ExactSet
 hd:o.data=.set es ep t
 he:es.toList=xs.map sF
 T:TOk t (rn xs)
 led:t.led= !w.params.followText "set-order"
 pl:t.plain=ζ
 nd:(xs.map (·.1)).Nodup
section
variable {A:Tb}{s:Sc}{b:Addr}{es:Array (Int×Sb)}{t:TK}{xs:eM}
theorem SetAt.size(S:SetAt w o es ep t xs):es.size=xs.length:=by
 have:=congrArg Uk S.he;simpa using this
theorem SetAt.fits(S:SetAt w o es ep t xs):t.fits es.size=true:=by
 have a:=S.T.sz;have b:=S.T.fl;unfold rn at a;rw[Sm] at a;unfold SetTable.fits;rw[S.size,a];simp[b]
theorem SetAt.at_(S:SetAt w o es ep t xs)(i:Nat):es[i]? =(xs[i]?).map sF:=by
 rw[<-Tc,S.he,Us]
theorem n9 {k:List Int}(g:(KI prog w).is s.heap k b)(h:Q θ s):Sy (model prog w) A (Yk 8 (.ref b)) Q E s:=by
 have l:=jat (s:=s) g;obtain⟨o,items,n,m,p,j,i⟩:=g;unfold Yk;refine R8 (jau l ?_);dsimp only;rw[if_pos (by rfl)];refine R8 (Sa ?_);simp only[Wb,SF,if_false];refine R8 (X8 m j ?_);dsimp only;refine R8 ?_
 rw[<-Z8];refine VP _ (λc r s'=>r.1=ξ/\s'=s/\ ∀v∈c,carriedByValue v=ζ) _ ?_ ?_ _ _ ⟨rfl,rfl,i.byValue⟩
 ·rintro v c r s' ⟨e,rfl,d⟩;have hv:=d v SB;have:Yk 7 v=pure false:=by
   cases v with
   |ref a=>simp[carriedByValue] at hv
   |_=>rfl
  rw[this];refine R8 (Sa ?_);simp only[SF,if_false];exact Sa ⟨rfl,rfl,λu f=>d u (Sx _ f)⟩
 ·rintro⟨t,q⟩ s' ⟨e,rfl,_⟩;simp only at e;subst e;exact Sa h
theorem uY {k:List Int}(i:(KI prog w).is s.heap k b)(hv: ∀v∈vs,∃f c,v=.ref c/\(KI prog w).is s.heap f c)(h:Q θ s):Sy (model prog w) A (jav (.ref b) vs) Q E s:=by
 unfold jav;refine R8 ?_
 refine VP _ (λd r s'=>r.1=ξ/\s'=s/\ ∀v∈d,∃f c,v=.ref c/\(KI prog w).is s.heap f c) _ ?_ ?_ _ _ ⟨rfl,rfl,hv⟩
 ·rintro v d r s' ⟨j,rfl,a⟩;obtain⟨f,c,rfl,g⟩:=a v SB;dsimp only;split
  ·exact Sa ⟨rfl,rfl,λu e=>a u (Sx _ e)⟩
  ·refine R8 ((KI prog w).quiet i ?_);simp only[Wb,SF,if_false];refine R8 ((KI prog w).quiet g ?_);simp only[Wb,SF,if_false];refine R8 (n9 i ?_);simp only[SF,if_false];refine R8 (n9 g ?_);simp only[SF,if_false];exact Sa ⟨rfl,rfl,λu e=>a u (Sx _ e)⟩
 grind[Sa]
def QF(es:Array (Int×Sb))(i:Nat):Int:=(es[i]?.map (·.1)).getD 0
theorem C8 {α:Type}{m:Sem Bool}{U R:Sem α}{c:Bool}{Q:α->Sc->Prop}(e:Sy (model prog w) A R Q E s)(a:Sy (model prog w) A m (λb s'=>b=θ/\s'=s) E s):
 Sy (model prog w) A (if c=ζ then(m>>=λx=>if x=ζ then U else R) else R) Q E s:=by
 split
 ·refine R8 (Tl a (λb s' ⟨d,f⟩=>?_) λ_ _ x=>x);nofun
 omega
theorem oE(U:s.heap.get? a=p5 o)(S:SetAt w o es ep t xs)(R:mW prog w s.heap xs)(hu:A.units<S7)(hk:(KI prog w).is s.heap k b)(f:Bool)(hM:M<=10*(13+t.mask))
 (h1: ¬sX t (Jx t.mask (th k) M)) (h2: ∀m,m<M->sX t (Jx t.mask (th k) m))
 (l: ∀(i:Nat) (c:Addr),xs[i]? =p5 (k,c)->Q (.there (if f then ξ else p5 i)) s)
 (n:k∉xs.map (·.1)-> ∀(d:Option Nat),PH t (th k) M d->Q (.free (d.getD (Jx t.mask (th k) M)) d.isSome) s):
 ∀(fuel m:Nat) (st:Option Pb) (d:Option Nat),M<m+fuel->m<=M->PH t (th k) M d->st.getD (t.probeStart (th k))=dO t.mask m (uU t.mask (th k) d)->
  (∀(i:Nat) (c:Addr) (j:Nat),xs[i]? =p5 (k,c)->t.place[i]? =p5 j-> ∃h,m<=h/\h<M/\Jx t.mask (th k) h=j)->
  Sy (model prog w) A (setSearchFrom a (.ref b) (th k) f fuel st) Q E s
 |0,m,st,d,q1,q2,_,_,_=>absurd q1 ⋯
 |fuel+1,m,st,d,q1,q2,hd,J,B=>by
  have T:=S.T;have Z:(KI prog w).room A:=hu;have hsz: ∀i:Nat,(∃j,t.place[i]? =p5 j)↔ ∃x,xs[i]? =p5 x:=λi=>by
   have e1:=T.sz;unfold rn at e1;rw[Sm] at e1;constructor
   ·rintro⟨j,Y⟩;have:=(T4.mp Y).1;exact⟨_,Su (show i<xs.length by nofun)⟩
   ·rintro⟨x,g⟩;have:=(Sz.mp g).1;nofun
  unfold setSearchFrom;refine R8 (Ts U S.hd S.fits ?_);dsimp only;rw[T.noway];simp only[SF,if_false];rw[J];unfold SetTable.probe;obtain⟨r,hr,hc⟩:=ql T (QF es) h1 h2 (10*Vh t.mask) m d (by grind[Vh]) q2 hd;generalize hP:Yj t _ (th k) _ _=P;obtain rfl:P=some r:=hP.symm.trans hr;dsimp only;have u: ∀(i:Nat) (x:List Int×Addr),xs[i]? =p5 x->QF es i=th x.1:=λi x g=>by
   unfold QF;rw[S.at_,g];rfl
  rcases hc with⟨d',rfl,F,V⟩|⟨c,i,d',a1,a2,C,a4,rfl,F,V⟩
  ·have nk:k∉xs.map (·.1):=λw=>by
    obtain⟨x,g,rfl⟩:=SM.mp w;obtain⟨i,hi⟩:=Tz.mp g;obtain⟨j,Y⟩:=(hsz i).mpr ⟨x,hi⟩;obtain⟨h,O,H,I⟩:=B i x.2 j hi Y;exact V h O H i (by nofun) (u i x hi)
   have:=n nk d' F;dsimp only;cases d' with
   |none=>exact Sa this
   |some z=>
    dsimp only;have e:(f&&t.slot z !=jgd)=false:=by
     rw[qy T (F z rfl).1];simp
    rw[e];simp only[SF,if_false];exact Sa this
  ·obtain⟨x,g⟩:=(hsz i).mp ⟨_,C⟩;have K:es[i]? =p5 (th x.1,.ref x.2):=by rw[S.at_,g];rfl
   have L:=S5 g;have W:=R x L;dsimp only;refine C8 ?_ (uY hk (λv hv=>?_) ⟨rfl,rfl⟩)
   ·rw[K];dsimp only;refine R8 (Tr ((KI prog w).eqBool (x:=x.1) (y:=k) Z W hk ?_));refine R8 (Ts U S.hd S.fits ?_);dsimp only;have sm:t.sameMemory t.moves t.mask=p5 true:=by simp[SetTable.sameMemory]
    by_cases N:x.1=k
    ·rw[zm N];have G:=l i x.2 (by rw[g,<-N]);cases f with
     |true=>simp only[ZZ,if_true];exact Sa G
     |false=>
      simp only[jci,SF,if_false];rw[sm];dsimp only;rw[if_pos rfl,nv T C];dsimp only;rw[K];dsimp only;refine R8 (Zp ?_);simp only[if_true];refine R8 (Sa ?_);dsimp only;exact Sa G
    ·rw[zq N,jcj];simp only[SF,if_false];rw[sm];dsimp only;rw[if_pos rfl,nv T C];dsimp only;rw[K];dsimp only;refine R8 (Zp ?_);simp only[if_true];refine R8 (Sa ?_);dsimp only;refine oE U S R hu hk f hM h1 h2 l n fuel (c+1) _ d' ⋯ ⋯ F rfl λX c' j' q p=>?_
     obtain⟨h,O,H,I⟩:=B X c' j' q p;refine⟨h,?_,H,I⟩;refine Ua λw=>?_
     by_cases e:h=c
     ·subst e;have:=T.sp.inj C (by rw[I];exact p);lia
     ·exact V h O ⋯ X (by nofun) (u X _ q)
   ·obtain⟨e,D,rfl⟩:=SM.mp hv;have D:e∈es:=(Array.mem_filter.mp (Wn.mp D)).1;have D:e∈xs.map sF:=by rw[<-S.he];nofun
    obtain⟨y,G,rfl⟩:=SM.mp D;exact⟨y.1,y.2,rfl,R y G⟩
end
theorem LP(a:Nat)(p:Pb)(h:p.j+p.more<=a):(AV a p).j+(AV a p).more<=a:=by
 unfold AV;split
 ·lia
 ·have b:(WG a p.i p.perturb).1<=a:=V6.mp (UR _ (by simp));have:=nX b;nofun
theorem OT(a:Nat)(h:Int)(m:Nat):Jx a h m<=a:=by
 have: ∀m,(dO a m (uU a h ξ)).j+(dO a m (uU a h ξ)).more<=a:=λm=>by
  induction m with
  |zero=>
   have c:Tt h % (a+1)<=a:=V6.mp (UR _ (by simp));have:=nX c;show Tt h % (a+1)+(TF a (Tt h % (a+1)) -Tt h % (a+1))<=a;nofun
  |succ m b=>rw[ia];exact LP a _ b
 have:=this m;unfold Jx;lia
structure cp(w:Tf)(o:Obj)(es:Array (Int×Sb))(ep:Nat)(t:TK)(xs:eM):Prop extends SetAt w o es ep t xs where
 f5:t.fill*5<t.mask*3
section
variable {A:Tb}{s:Sc}{a:Addr}{es:Array (Int×Sb)}{t:TK}{xs:eM}
theorem p7(D:s.heap.get? a=p5 o)(S:SetAt w o es ep t xs)(C:mW prog w s.heap xs)(G:A.units<S7)(J:(KI prog w).is s.heap k b)(f:Bool)
 (h: ∀(i:Nat) (c:Addr),xs[i]? =p5 (k,c)->Q (.there (if f then ξ else p5 i)) s)
 (g:k∉xs.map (·.1)-> ∀(j:Nat) (n:Bool),j<=t.mask->(n=ζ->j∈t.dummies.toList)->(n=θ-> ¬sX t j)->(∃m,Jx t.mask (th k) m=j/\ ∀l,l<m->sX t (Jx t.mask (th k) l))->Q (.free j n) s):
 Sy (model prog w) A (setSearch a (.ref b) (th k) f) Q E s:=by
 obtain⟨M,B,p,r⟩:=S.T.first (th k);have N:=S.T.mask;unfold setSearch;refine oE D S C G J f B p r h (λu d F=>?_) 100000 0 ξ ξ ⋯ (by simp) (λx L=>by nofun) rfl λi c j P I=>?_
 ·cases d with
  |none=>exact g u _ _ (OT _ _ _) (λw=>by nofun) (λ_=>p) ⟨M,rfl,r⟩
  |some z=>
   obtain⟨y,m,R,H⟩:=F z rfl;exact g u z ζ (S.T.ld z y) (λ_=>y) (λw=>by nofun) ⟨m,H,λl O=>r l ⋯⟩
 ·obtain⟨v,e,q⟩:=S.T.rc (th k,j) (Tz.mpr ⟨i,UN.mpr ⟨by unfold rn;nofun,by nofun⟩⟩);refine⟨v,by simp,?_,e⟩;have K:sX t j:=.inl (S5 (by rw[Tc];exact I));rcases Vt v M with c|c|c
  ·exact c
  ·nofun
  ·exact absurd (q M c) p
theorem rq(b:Addr)(es:Array (Int×Sb)):byScan (.ref b) es=false:=rfl
theorem qC(f:s.heap.get? a=p5 o)(S:SetAt w o es ep t xs)(h:mW prog w s.heap xs)(m:A.units<S7)(n:(KI prog w).is s.heap k b)
 (d: ∀(i:Nat) (c:Addr),xs[i]? =p5 (k,c)->Q (p5 i) s) (e:k∉xs.map (·.1)->Q ξ s):Sy (model prog w) A (setFind a (.ref b) (th k)) Q E s:=by
 unfold setFind setFindIn;refine R8 (Ts f S.hd S.fits ?_);dsimp only;rw[rq];simp only[SF,if_false];refine R8 (p7 f S h m n θ (λi c l=>?_) λg j p _ _ _ _=>?_)
 ·exact Sa (d i c l)
 ·exact Sa (e g)
theorem Gy {k:List Int}(g:(KI prog w).is s.heap k b)(h:Q ζ s):Sy (model prog w) A (jby 8 (.ref b)) Q E s:=by
 have j:=jat (s:=s) g;obtain⟨o,items,n,m,u,f,e⟩:=g;unfold jby;refine R8 (XF j F.slot_tuple_hash.lookup ?_);refine R8 (X8 m f ?_);dsimp only;refine R8 ?_
 show Sy _ _ (forIn items _ _) _ _ _;rw[<-Z8];have a: ∀v∈items.toList,∃(i:Int) (tk:Tok),v=.int i tk:=by
  intro v hv;clear m f j;generalize items.toList=l at e hv
  induction e with
  |nil=>nofun
  | @cons k t ks vs p _ q=>
    rcases SU.mp hv with rfl|hv
    ·obtain⟨tk,rfl⟩:=jaw p;exact⟨_,_,rfl⟩
    ·exact q hv
 refine VP _ (λc r s'=>r.1=ξ/\s'=s/\ ∀v∈c,∃(i:Int) (tk:Tok),v=.int i tk) _ ?_ ?_ _ _ ⟨rfl,rfl,a⟩
 ·rintro v c r s' ⟨d,rfl,a⟩;obtain⟨i,tk,rfl⟩:=a v SB;have:jby 7 (.int i tk)=pure true:=rfl;rw[this];refine R8 (Sa ?_);simp only[Wb,SF,if_false];grind[Sa]
 ·rintro⟨y,x⟩ s' ⟨d,rfl,_⟩;simp only at d;subst d;exact Sa h
theorem sZ(S:SetAt w o es ep t xs):(es.map (·.1)).toList=rn xs:=by
 rw[Array.toList_map,S.he,SJ];rfl
def pb(xs:eM)(a:List Nat):eM:=a.map λi=>xs.getD i ([],0)
theorem jL {xs:eM}{a:List Nat}(p:a.Perm (R9 xs.length)):(pb xs a).Perm xs:=by
 have e:(R9 xs.length).map (λi=>xs.getD i ([],0))=xs:=by
  refine VQ (by simp) λi c b=>?_
  simp[Wc,b]
 have:=p.map λi=>xs.getD i ([],0)
 rw[e] at this;exact this
theorem ud(S:SetAt w o es ep t xs)(hw:wanted<=4095)(h:xs.length*5<wanted*3): ∃(b a:Array Nat) (f:Nat),t.relaid (es.map (·.1)) wanted=p5 (⟨TB wanted-1,b, #[],t.finger,t.led,f,t.plain⟩,a)/\
 a.toList.Perm (R9 xs.length)/\(∀(o':Obj) (c:Nat),o'.ExactSet->o'.data=.set (a.filterMap (es[·]?)) c ⟨TB wanted-1,b, #[],t.finger,t.led,f,t.plain⟩->
  cp w o' (a.filterMap (es[·]?)) c ⟨TB wanted-1,b, #[],t.finger,t.led,f,t.plain⟩ (pb xs a.toList))/\(a.filterMap (es[·]?)).size=es.size:=by
 obtain⟨q,y,n,e,E⟩:=iI hw;have x:(es.map (·.1)).size=xs.length:=by rw[jck,S.size]
 have G:TB wanted-1+1=2^q:=by grind
 obtain⟨b,a,H,d,s⟩:=Bl y n G t.finger (t.movedTo (TB wanted-1)) t.led t.plain (es.map (·.1)) ⋯;rw[x] at d;have lt: ∀i∈a.toList,i<xs.length:=λi m=>SE.mp (d.mem_iff.mp m)
 have u:(a.filterMap (es[·]?)).toList=(pb xs a.toList).map sF:=by
  rw[Y2];unfold pb;rw[SJ];have g: ∀l:List Nat,(∀i∈l,i<xs.length)->l.filterMap (λi=>es[i]?)=l.map (sF∘λi=>xs.getD i ([],0)):=by
   intro l
   induction l with
   |nil=>intro _;rfl
   |cons i l C=>
    intro h;have v:=h i SB;have D:es[i]? =p5 (sF (xs.getD i ([],0))):=by
     rw[S.at_,Su v];nofun
    rw[XT,D,So,C λj A=>h j (Sx _ A)];rfl
  exact g _ lt
 have B:rn (pb xs a.toList)=a.toList.map λk=>(es.map (·.1)).toList.getD k 0:=by
  unfold rn pb;rw[SJ];refine TC λi m=>?_
  have:=lt i m;rw[sZ S];show th (xs.getD i ([],0)).1=(rn xs).getD i 0;unfold rn;simp[Wc,this]
 have r:=jL d;refine⟨b,a,_,H,d,λo' c p F=>?_,?_⟩
 ·refine⟨⟨p,F,u,by rw[B];exact s,S.led,S.pl,?_⟩,?_⟩
  ·exact((r.map (·.1)).nodup_iff).mpr S.nd
  ·have z:=s.sz;rw[Sm,d.length_eq,T8] at z;show(b.size+0)*5<(TB wanted-1)*3;have z:b.size=xs.length:=z;omega
 ·rw[<-SV,u,Sm,r.length_eq,S.size]
theorem HQ(j:s.heap.get? a=p5 o)(S:SetAt w o es ep t xs)(hw:wanted<=4095)(y:xs.length*5<wanted*3)
 (h: ∀h' o' c g t' f,S8 a s.heap h'->h'.get? a=p5 o'->cp w o' c g t' f->f.Perm xs->Q Unit.unit {s with heap:=h'}):Sy (model prog w) A (setRelay a wanted) Q E s:=by
 obtain⟨d,b,r,v,m,p,k⟩:=ud S hw y;obtain⟨q,B,i,e,n⟩:=iI hw
 have u:setRelay a wanted=(do
  let(es,_,t) <-jax a
  if TB wanted>SC then UL "set:memory"
  let(es,t) <-(do
   let some (t,b):=t.relaid (es.map (·.1)) wanted|UL "internal:set-table-without-room"
   let c:=b.filterMap (es[·]?)
   if c.size !=es.size then UL "internal:set-table-lost-an-element"
   pure (c,t):Sem (Array (Int×Sb)×TK))
  jcl a es t):=rfl
 rw[u];refine R8 (Ts j S.hd S.fits ?_);dsimp only;have x:2^q<=2^12:=Uj (by simp) i;rw[if_neg (by rw[e,TY];omega),v];dsimp only;rw[k,bne_self_eq_false];simp only[SF,if_false];refine R8 (Sa ?_);dsimp only;have z:(b.filterMap (es[·]?)).size<=sizeLine:=by
  rw[k,S.size,TY];omega
 refine Vu j S.hd ?_ z;have l:=Ti (WR (b.filterMap (es[·]?)) ⟨TB wanted-1,d, #[],t.finger,t.led,r,t.plain⟩) j (by rw[VR _ _ S.hd];rfl);rw[VR _ _ S.hd] at l;exact h _ _ _ _ _ _ (To s.heap a _) l (p _ _ S.ex rfl) (jL m)
end
theorem HH {t:TK}(T:TOk t hs)(a:Bool)(e:a=ζ->j∈t.dummies.toList)(k:a=θ-> ¬sX t j):(t.put j).1.fill=if a then t.fill else t.fill+1:=by
 have f:(Tp t.place (SY t.place j) j).size=t.place.size+1:=by
  have:=congrArg Uk (Ug t.place (SY t.place j) j);rw[SV] at this;rw[this];have b:=(Pv T.sp j).le;simp;grind
 show(Tp t.place (SY t.place j) j).size+(if XZ t.dummies j=ζ then Tw t.dummies (SY t.dummies j) else t.dummies).size=_;rw[f];unfold ZY;cases a with
 |true=>
  have d:=e rfl;obtain⟨i,c⟩:=Tz.mp d;rw[Tc] at c;have lt:=(T4.mp c).1;have g:(Tw t.dummies (SY t.dummies j)).size=t.dummies.size-1:=by
   rw[<-SV,eZ,UZ,uX T.sd c,if_pos (by omega),SV]
  rw[if_pos ((jI T.sd j).mpr d),if_pos rfl,g];lia
 |false=>
  have h:=k rfl;rw[if_neg λw=>h (.inr ((jI T.sd j).mp w)),if_neg ()];lia
theorem nr {α β:Type}(f:α->β): ∀(l:List α) (i:Nat),(l.map f).eraseIdx i=(l.eraseIdx i).map f
 | [],_=>rfl
 |_::_,0=>rfl
 |a::l,i+1=>by simp[nr]
section
variable {A:Tb}{xs:eM}
theorem FC {α:Type}(l:List α)(p:Nat)(x:α):(fx l p x).Perm (l++[x]):=by
 unfold fx;refine YM.trans ?_
 rw[Zo];exact(List.perm_append_singleton x l).symm
theorem pq(r:s.heap.get? a=p5 o)(S:cp w o es ep t xs)(X:mW prog w s.heap xs)(Y:A.units<S7)(M:(KI prog w).is s.heap k b)(K:xs.length<=1000)
 (p:k∈xs.map (·.1)->Q θ s)
 (h:k∉xs.map (·.1)-> ∀h' o' f d t' e,S8 a s.heap h'->h'.get? a=p5 o'->cp w o' f d t' e->e.Perm (xs++[(k,b)])->Q ζ {s with heap:=h'}):
 Sy (model prog w) A (W2 a (.ref b) (th k)) Q E s:=by
 have u:=S.toSetAt;unfold W2 setAddHashedIn;refine Tr (R8 (Ts r S.hd u.fits ?_));dsimp only;rw[rq];simp only[SF,if_false];refine R8 (p7 r u X Y M ζ (λi c hi=>?_) λG j z hj m n C=>?_)
 ·exact Sa (p (SM.mpr ⟨(k,c),S5 hi,rfl⟩))
 ·dsimp only;refine R8 (Ts r S.hd u.fits ?_);dsimp only;have T:=S.T;have U:j∉t.place.toList:=λw=>by
   cases z with
   |true=>exact T.dj j (m rfl) w
   |false=>exact n rfl (.inl w)
  have fp:=HH T z m n;have V:=S.f5;obtain⟨q,R,q12,qe⟩:=T.pw;have p3:2^3<=2^q:=Uj (by simp) R;have Z:(t.put j).1.fill<=t.mask:=by rw[fp];lia
  have T2:=T.put hj U C Z;have I:(t.put j).1.plain=true:=S.pl;have hsz:=u.size;have H:(Tp es (t.put j).2 (th k,SQ b)).toList=(fx xs (t.put j).2 (k,b)).map sF:=by
   rw[Ug,S.he];unfold fx;rw[SZ,So,jdp,List.map_drop];rfl
  have et:rn (fx xs (t.put j).2 (k,b))=fx (rn xs) (t.put j).2 (th k):=by
   simp[rn,fx]
  have l:=FC xs (t.put j).2 (k,b);have B:((fx xs (t.put j).2 (k,b)).map (·.1)).Nodup:=by
   refine((l.map (·.1)).nodup_iff).mpr ?_
   rw[SZ,Th];exact⟨S.nd,by simp,λx hx y hy=>by
    grind⟩
  have v:(Tp es (t.put j).2 (th k,SQ b)).size=xs.length+1:=by
   rw[<-SV,H,Sm,l.length_eq];simp
  have L: ∀(o':Obj) (d:Nat),o'.ExactSet->o'.data=.set (Tp es (t.put j).2 (th k,SQ b)) d (t.put j).1->SetAt w o' (Tp es (t.put j).2 (th k,SQ b)) d (t.put j).1 (fx xs (t.put j).2 (k,b)):=
   λo' d F hd=>⟨F,hd,H,by nofun,S.led,I,B⟩
  have D:=Ti (WR (Tp es (t.put j).2 (th k,SQ b)) (t.put j).1) r (by rw[VR _ _ S.hd];rfl);rw[VR _ _ S.hd] at D;rw[I];simp only[if_true];refine R8 (Gy M ?_);simp only[if_true];refine R8 (Vu r S.hd ?_ (by rw[v,TY];lia));have J:=To s.heap a (WR (Tp es (t.put j).2 (th k,SQ b)) (t.put j).1);split
  ·rename_i g
   rw[TL] at g;refine R8 (HQ (s:={s with heap:=s.heap.update a (WR (Tp es (t.put j).2 (th k,SQ b)) (t.put j).1)}) D (L _ _ S.ex rfl) ?_ ?_ λh' o' f d t' e W N O P=>?_)
   ·rw[hsz];grind[jcn]
   ·rw[hsz,l.length_eq];grind[jcn]
   ·exact Sa (h G h' o' f d t' e (J.trans W) N O (P.trans l))
  ·rename_i g
   refine Sa (h G _ _ _ _ _ _ J D ⟨L _ _ S.ex rfl,?_⟩ l);show(t.put j).1.fill*5<t.mask*3;rw[fp];cases z with
   |true=>exact V
   |false=>
    have g: ¬(t.put j).1.tooFull=true:=λw=>g (by rw[w];rfl)
    unfold SetTable.tooFull at g;rw[zk,fp] at g;have:(t.put j).1.mask=t.mask:=rfl;nofun
theorem oF(g:s.heap.get? a=p5 o)(S:cp w o es ep t xs)(D:mW prog w s.heap xs)(x:A.units<S7)(y:(KI prog w).is s.heap k b)(f:xs.length<=1000)
 (h:k∉xs.map (·.1)->Q θ s)
 (d:k∈xs.map (·.1)-> ∀h' o' n l t' e,S8 a s.heap h'->h'.get? a=p5 o'->cp w o' n l t' e->(∃i c,xs[i]? =p5 (k,c)/\e=xs.eraseIdx i)->Q ζ {s with heap:=h'}):
 Sy (model prog w) A (YN a (.ref b) (th k)) Q E s:=by
 have p:=S.toSetAt;unfold YN;refine R8 (qC g p D x y (λi c m=>?_) λv=>?_)
 ·dsimp only;refine R8 (Ts g S.hd p.fits ?_);dsimp only;have T:=S.T;have r:=T.sz;unfold rn at r;rw[Sm] at r;have H:=(Sz.mp m).1;have B:t.place[i]? =p5 (t.place[i]'(by nofun)):=Td (by nofun);have C:=T.drop B;have u:(Tw es i).toList=(xs.eraseIdx i).map sF:=by
   rw[eZ,S.he,nr]
  have F:rn (xs.eraseIdx i)=(rn xs).eraseIdx i:=by simp[rn,nr]
  have z:(Tw es i).size<=1000:=by
   rw[<-SV,u,Sm];exact Tk (YO _ _) f
  have q:=Ti (WR (Tw es i) (t.drop i)) g (by rw[VR _ _ S.hd];rfl);rw[VR _ _ S.hd] at q;have j:t.drop i={t with place:=Tw t.place i,dummies:=Tp t.dummies (SY t.dummies (t.place[i]'(by nofun))) (t.place[i]'(by nofun))}:=by
   unfold jdl;nofun
  refine R8 (Vu g S.hd ?_ (by rw[TY];omega));refine R8 (wpAny_point ?_);refine Sa (d (SM.mpr ⟨(k,c),S5 m,rfl⟩) _ _ _ _ _ (xs.eraseIdx i) (To s.heap a _) q ⟨⟨S.ex,rfl,u,by rw[F];exact C,by rw[j];exact S.led,by rw[j];exact S.pl,?_⟩,?_⟩ ⟨i,c,m,rfl⟩)
  ·rw[<-nr];exact Vi (Vn _ _) S.nd
  ·have G:=S.f5;have I:(t.drop i).fill=t.fill:=by
    rw[j];show(Tw t.place i).size+(Tp t.dummies _ _).size=t.place.size+t.dummies.size;rw[<-SV,eZ,UZ,<-SV (xs:=Tp _ _ _),Ug,if_pos (by nofun)];have b:=(Pv T.sd (t.place[i]'(by nofun))).le;simp;omega
   nofun
 ·exact Sa (h v)
end
abbrev bj:=Sum Int Str
def uh:bj->Sb->Bool
 | .inl k,v=>jfs k v
 | .inr x,v=>jdq x v
def Rl(w:Tf):bj->Int
 | .inl k=>hashInt k
 | .inr x=>hashStr w x
theorem cX: ∀ {k:bj} {v:Sb},uh k v=ζ->(∃i t,k=Yl i/\v=Xn i t)\/(∃x t,k=jcd x/\v=jdT x t)
 | .inl i,v,h=>by
   obtain⟨t,e⟩:=jaw (k:=i) (v:=v) h;exact .inl ⟨i,t,rfl,e⟩
 | .inr x,v,h=>by
   obtain⟨t,e⟩:=Value.isStrOf_shape (x:=x) (v:=v) h;exact .inr ⟨x,t,rfl,e⟩
theorem CN(i:Int)(t:Tok):uh (.inl i) (.int i t)=true:=by simp[uh,jfs]
theorem DQ(x:Str)(t:Tok):uh (.inr x) (.str x t)=true:=by grind[uh,jdq]
theorem Nq(a b:Int):decide ((Yl a:bj)=Yl b)=(a==b):=by
 by_cases e:a=b
 ·subst e;simp
 nofun
theorem Nu(a b:Str):decide ((jcd a:bj)=jcd b)=χ (a=b):=by
 simp
theorem Mf(a:Int)(b:Str):decide ((Yl a:bj)=jcd b)=false:=zq (λq=>nomatch q)
theorem Mk(a:Str)(b:Int):decide ((jcd a:bj)=Yl b)=false:=zq (λq=>nomatch q)
def bW(prog:SS)(w:Tf):PySem.KeyKind prog w bj where
 is:=uh
 hash:=Rl w
 inj:=λv a b ha hb=>by
  grind[cX]
 byValue:=λk v h=>by
  rcases cX h with⟨i,t,rfl,rfl⟩|⟨x,t,rfl,rfl⟩<;>rfl
 pyHash:=λhv h=>by
  rcases cX hv with⟨i,t,rfl,rfl⟩|⟨x,t,rfl,rfl⟩
  ·exact wpAny_pyHash_int h
  ·exact wpAny_pyHash_str h
 eqBool:=λhu hv h=>by
  rcases cX hu with⟨i,t,rfl,rfl⟩|⟨x,t,rfl,rfl⟩
  ·rcases cX hv with⟨j,u,rfl,rfl⟩|⟨y,u,rfl,rfl⟩
   ·rw[Nq] at h;exact jbc h
   ·rw[Mf] at h;exact SeqAt.EqAt.int_str i t y u _ _ _ _ h
  ·rcases cX hv with⟨j,u,rfl,rfl⟩|⟨y,u,rfl,rfl⟩
   ·rw[Mk] at h;exact SeqAt.EqAt.str_int x t j u _ _ _ _ h
   ·rw[Nu] at h;exact wpAny_eqBool_str h
 «strs»:=λk x t v h=>by
  rcases cX h with⟨i,u,rfl,e⟩|⟨y,u,rfl,e⟩
  ·nofun
  ·injection e with e1 _
   subst e1;cases v<;>rfl
theorem xg(prog:SS)(w:Tf)(i:Int)(t:Tok):(bW prog w).is (.inl i) (.int i t)=true:=CN i t
theorem xL(prog:SS)(w:Tf)(x:Str)(t:Tok):(bW prog w).is (.inr x) (.str x t)=true:=DQ x t
inductive V where
 |non|bl (b:Bool)|int (i:Int)|str (x:Str)|byt (b:Array UInt8)|flt (b:UInt64)|ref (a:Addr)|ty (n:String)
 deriving DecidableEq
def bS:V->Sb->Prop
 | .non,u=>u=Te
 | .bl b,u=>u=Z9 b
 | .int i,u=> ∃t,u=Xn i t
 | .str x,u=> ∃t,u=jdT x t
 | .byt b,u=> ∃t,u=Value.bytes b t
 | .flt b,u=> ∃t,u=Value.float b t
 | .ref a,u=>u=SQ a
 | .ty n,u=>u=jaa n
abbrev cb:List V->List Sb->Prop:=Paired bS
theorem cb.length {xs:List V}{us:List Sb}(r:cb xs us):xs.length=us.length:=Vd r
theorem cb.get: ∀ {xs:List V} {us:List Sb} {i:Nat} {x:V},cb xs us->xs[i]? =p5 x-> ∃u,us[i]? =p5 u/\bS x u
 |_,_,_,_,.nil,e=>by simp at e
 |_,_,0,_,.cons r _,e=>by simp at e;subst e;exact⟨_,rfl,r⟩
 |_,_,i+1,x,.cons _ t,e=>by
  obtain⟨u,a,b⟩:=cb.get (i:=i) (x:=x) t (by simpa using e);exact⟨u,by simpa using a,b⟩
theorem cb.set(r:bS x u): ∀ {xs:List V} {us:List Sb} (i:Nat),cb xs us->cb (xs.set i x) (us.set i u)
 |_,_,_,.nil=>.nil
 |_,_,0,.cons _ t=>.cons r t
 |_,_,i+1,.cons q t=>.cons q (cb.set r i t)
theorem cb.append: ∀ {xs ys:List V} {us a:List Sb},cb xs us->cb ys a->cb (xs++ys) (us++a)
 |_,_,_,_,.nil,s=>s
 |_,_,_,_,.cons r t,s=>.cons r (cb.append t s)
theorem cb.take: ∀ {xs:List V} {us:List Sb} (n:Nat),cb xs us->cb (xs.take n) (us.take n)
 |_,_,0,_=>.nil
 |_,_,_+1,.nil=>.nil
 |_,_,n+1,.cons r t=>.cons r (cb.take n t)
theorem cb.drop: ∀ {xs:List V} {us:List Sb} (n:Nat),cb xs us->cb (xs.drop n) (us.drop n)
 |_,_,0,r=>r
 |_,_,_+1,.nil=>.nil
 |_,_,n+1,.cons _ t=>cb.drop n t
def oi:Option V->Option Sb->Prop
 |some v,some u=>bS v u
 |none,none=>True
 |_,_=>False
def KV {κ:Type}:List (κ×V)->List (κ×Sb)->Prop:=Paired λ(p:κ×V) (q:κ×Sb)=>p.1=q.1/\bS p.2 q.2
def kV:bj->V
 | .inl i=>.int i
 | .inr x=>.str x
inductive HO where
 |lst (xs:List V)
 |tup (xs:List V)
 |dK (kvs:List (bj×V))|dT (kvs:List (List bj×V))
 |set (S:Int->Bool) (n:Nat)
 |tst (xs:List (List Int×Addr))
 |ins (C dx:Addr) (fs:List (Str×V))
 |own (x:Addr)
 |xd (fs:List (Str×V))
 |met (f x:Addr)
 |rng (lo hi:Int)
 |frz (o:Obj) (u:HO)
 |nst (p:Addr) (u:HO)
 |tbl (ps:Array Sb)
 |ext (φ:Heap->Prop)
abbrev Hp:=Addr->Option HO
def aV(H:Hp)(a:Addr)(o:HO):Hp:=λb=>if b=a then p5 o else H b
theorem aA:aV H a o a=p5 o:=by simp[aV]
theorem az(h:b≠a):aV H a o b=H b:=by unfold aV;rw[if_neg h]
theorem A8:aV (aV H a o) a u=aV H a u:=by
 funext b;unfold aV;nofun
theorem K8 {H:Hp}(h:H a=p5 o)(h':H b=p5 u)(d:o≠u):a≠b:=by
 intro e;nofun
theorem bV {H:Hp}(h:H a=p5 o)(h':H b=ξ):a≠b:=by
 intro e;nofun
section
variable(P:SS)(w:Tf)
def b6(H:Hp)(h:Heap)(a:Addr):HO->Prop
 | .lst xs=>xs.length<=SC/\ ∃(b:List Sb) (n:Nat),cb xs b/\h.get? a=p5 {cls:=.type "list",data:=.seq b.toArray n}
 | .tup xs=>xs.length<=SC/\ ∃b:List Sb,cb xs b/\jco h a b.toArray/\ ∃o,h.get? a=p5 o/\o.dict=ξ
 | .dK kvs=>kvs.length<=SC/\(a==UT)=θ/\ ∃vs,KV kvs vs/\h.DictOf (bW P w) a vs
 | .dT kvs=>kvs.length<=SC/\(a==UT)=θ/\ ∃xs:List (List bj×Addr×Sb),
    Paired (λ(p:List bj×V) (q:List bj×Addr×Sb)=>p.1=q.1/\H q.2.1=p5 (.tup (p.1.map kV))/\bS p.2 q.2.2) kvs xs/\
    ∃o es ep,h.get? a=p5 o/\o.ExactDict/\o.data=.dict es ep/\es.toList=xs.map (entryOfKey (WU (bW P w)))/\(xs.map (·.1)).Nodup
 | .set S n=>h.SetOf (intKind P w) a S n
 | .tst xs=> ∃o es ep t,h.get? a=p5 o/\cp w o es ep t xs
 | .ins C e d=>H e=p5 (.own a)/\d.length<=1000/\e≠a/\h.get? a=p5 (W.instObj C e)/\
    ∃c,h.Ns1 e c/\(∀f,oi (d.lookup f) (c f))/\PySem.Within c (d.map (·.1))
 | .own _=> ∃o,h.get? a=p5 o
 | .xd d=> ∃c,h.Ns1 a c/\ ∀f,oi (d.lookup f) (c f)
 | .rng k j=> ∃t u v,h.get? a=p5 {cls:=.type "range",data:=.fields #[.int k t,.int j u,.int 1 v]}
 | .frz o u=>h.get? a=p5 o/\b6 H h a u
 | .nst _ u=>b6 H h a u
 | .tbl l=>h.get? a=p5 {cls:=.none,data:=.fields l}
 | .met f x=>h.get? a=p5 (jbz (.ref f) (.ref x))
 | .ext φ=>φ h/\(∃o,h.get? a=p5 o)/\ ∀g i:Heap,φ g->(∀o,g.get? a=p5 o->i.get? a=p5 o)->φ i
def HOk(H:Hp)(h:Heap):Prop:= ∀a o,H a=p5 o->b6 P w H h a o
end
section
variable {h h':Heap}
theorem b6.lt(x:b6 P w H h a o):a<h.objs.size:=by
 induction o with
 |lst xs=>obtain⟨_,_,_,_,e⟩:=x;exact Sw e
 |tup xs=>obtain⟨_,_,_,p,_⟩:=x;exact p.lt
 |dK kvs=>obtain⟨_,_,_,_,o,_,_,e,_⟩:=x;exact Sw e
 |dT kvs=>obtain⟨_,_,_,_,o,_,_,e,_⟩:=x;exact Sw e
 |set S n=>obtain⟨o,_,_,_,e,_⟩:=x;exact Sw e
 |tst xs=>obtain⟨o,_,_,_,e,_⟩:=x;exact Sw e
 |ins C d c=>obtain⟨_,_,_,e,_⟩:=x;exact Sw e
 |own y=>obtain⟨_,e⟩:=x;exact Sw e
 |xd c=>obtain⟨_,⟨_,_,_,e,_⟩,_⟩:=x;exact Sw e
 |rng i g=>obtain⟨_,_,_,e⟩:=x;exact Sw e
 |frz ob u b=>obtain⟨e,_⟩:=x;exact Sw e
 |nst p u b=>exact b x
 |tbl j=>exact Sw (show h.get? a=p5 _ from x)
 |met f y=>exact Sw (show h.get? a=p5 _ from x)
 |ext φ=>obtain⟨_,⟨_,e⟩,_⟩:=x;exact Sw e
theorem Paired.mapP {α β:Type}{F G:α->β->Prop}: ∀ {l₁:List α} {c:List β},Paired F l₁ c->(∀a b,F a b->G a b)->Paired G l₁ c
 |_,_,.nil,_=>.nil
 |_,_,.cons r t,f=>.cons (f _ _ r) (Paired.mapP t f)
theorem b6.stay(x:b6 P w H h a o)(k: ∀b u,(b=a\/H b=p5 (.own a))->h.get? b=p5 u->h'.get? b=p5 u)
 (D: ∀b,H b=p5 (.own a)->H' b=p5 (.own a)) (B: ∀b xs,H b=p5 (.tup xs)->H' b=p5 (.tup xs)):b6 P w H' h' a o:=by
 induction o with
 |lst xs=>obtain⟨z,g,n,r,e⟩:=x;exact⟨z,g,n,r,k _ _ (.inl rfl) e⟩
 |tup xs=>obtain⟨z,g,r,⟨ob,e,c⟩,l,s,G⟩:=x;exact⟨z,g,r,⟨ob,k _ _ (.inl rfl) e,c⟩,l,k _ _ (.inl rfl) s,G⟩
 |dK kvs=>obtain⟨z,y,vs,r,ob,es,ep,e,c⟩:=x;exact⟨z,y,vs,r,ob,es,ep,k _ _ (.inl rfl) e,c⟩
 |dT kvs=>
  obtain⟨z,y,xs,r,ob,es,ep,e,c⟩:=x;exact⟨z,y,xs,Paired.mapP r λp q z=>⟨z.1,B _ _ z.2.1,z.2.2⟩,ob,es,ep,k _ _ (.inl rfl) e,c⟩
 |set S n=>obtain⟨ob,es,ep,t,e,c⟩:=x;exact⟨ob,es,ep,t,k _ _ (.inl rfl) e,c⟩
 |tst xs=>obtain⟨ob,es,ep,t,e,c⟩:=x;exact⟨ob,es,ep,t,k _ _ (.inl rfl) e,c⟩
 |ins C I E=>
  obtain⟨d,z,F,e,j,⟨m,es,ep,s,c⟩,r⟩:=x;exact⟨D _ d,z,F,k _ _ (.inl rfl) e,j,⟨m,es,ep,k _ _ (.inr d) s,c⟩,r⟩
 |own y=>obtain⟨ob,e⟩:=x;exact⟨ob,k _ _ (.inl rfl) e⟩
 |xd E=>obtain⟨j,⟨m,es,ep,e,c⟩,r⟩:=x;exact⟨j,⟨m,es,ep,k _ _ (.inl rfl) e,c⟩,r⟩
 |rng K J=>obtain⟨t,u,v,e⟩:=x;exact⟨t,u,v,k _ _ (.inl rfl) e⟩
 |frz ob u i=>obtain⟨e,q⟩:=x;exact⟨k _ _ (.inl rfl) e,i q⟩
 |nst p u i=>exact i x
 |tbl A=>
  have e:h.get? a=p5 {cls:=.none,data:=.fields A}:=x;show h'.get? a=p5 {cls:=.none,data:=.fields A};exact k a _ (.inl rfl) e
 |met f y=>
  have e:h.get? a=p5 (jbz (.ref f) (.ref y)):=x;show h'.get? a=p5 (jbz (.ref f) (.ref y));exact k a _ (.inl rfl) e
 |ext φ=>obtain⟨p,⟨o,e⟩,st⟩:=x;exact⟨st _ _ p λo q=>k _ _ (.inl rfl) q,⟨o,k _ _ (.inl rfl) e⟩,st⟩
theorem HOk.lt(x:HOk P w H h)(e:H a=p5 o):a<h.objs.size:=(x a o e).lt
theorem HOk.fresh(x:HOk P w H h)(e:h.objs.size<=a):H a=none:=by
 cases q:H a with
 |none=>rfl
 |some u=>exact absurd (SH (x.lt q) e) (Tv _)
theorem HOk.kept(x:HOk P w H h)(k: ∀b u,h.get? b=p5 u->h'.get? b=p5 u):HOk P w H h':=λa o e=>
 (x a o e).stay (λb u _ q=>k b u q) (λ_ q=>q) λ_ _ q=>q
theorem HOk.laid(x:HOk P w H h)(k: ∀b u,h.get? b=p5 u->h'.get? b=p5 u)(i:h.objs.size<=a)(f:b6 P w (aV H a o) h' a o):HOk P w (aV H a o) h':=λb u e=>by
 have d:=x.fresh i
 by_cases g:b=a
 ·grind[aA]
 ·rw[az g] at e;exact(x b u e).stay (λc v _ q=>k c v q) (λc q=>by rw[az (bV q d)];exact q) λc xs q=>by rw[az (bV q d)];exact q
end
def Rd(H:Hp)(a:Addr)(u:HO):Prop:=H a=p5 u\/ ∃o,H a=p5 (.frz o u)
theorem Rd.ok(r:Rd H a u)(x:HOk P w H h):b6 P w H h a u:=by
 rcases r with r|⟨o,r⟩
 ·exact x a u r
 ·obtain⟨_,q⟩:=x a _ r;exact q
def ME:Option HO->Prop
 |some (.lst _)=>True
 |some (.dK _)=>True
 |some (.dT _)=>True
 |some (.set _ _)=>True
 |some (.tst _)=>True
 |some (.ins _ _ _)=>True
 |some (.ext _)=>True
 |some (.nst _ _)=>True
 |_=>False
section
variable {h h':Heap}
theorem HOk.write(ok:HOk P w H h)(f:ME (H x))(o:e=x\/H e=p5 (.own x))(k: ∀b u,b≠e->h.get? b=p5 u->h'.get? b=p5 u)(g: ∃u,h'.get? e=p5 u)
 (m:b6 P w (aV H x o') h' x o'):HOk P w (aV H x o') h':=λb u q=>by
 have a: ∀c y,H c=p5 (.own y)->c≠x:=λc y r z=>by subst z;rw[r] at f;exact f
 have d: ∀c xs,H c=p5 (.tup xs)->c≠x:=λc xs r z=>by subst z;rw[r] at f;exact f
 by_cases n:b=x
 ·grind[aA]
 ·rw[az n] at q
  by_cases l:b=e
  ·have j:H b=p5 (.own x):=by
    nofun
   rw[q] at j;cases j;obtain⟨v,hv⟩:=g;exact⟨v,by nofun⟩
  ·refine(ok b u q).stay (λc v i r=>k c v ?_ r) (λc r=>by rw[az (a c b r)];exact r) λc xs r=>by rw[az (d c xs r)];exact r
   rcases i with rfl|i
   ·omega
   ·grind
end
structure Un(fs ex:List Addr)(H H':Hp)(h h':Heap):Prop where
 keep: ∀b o,h.get? b=p5 o->H b=ξ->b∉fs->b∉ex->h'.get? b=p5 o
 slot: ∀b o,h.get? b=p5 o->H b=ξ->b∈fs->b∉ex-> ∃sl,h'.get? b=p5 {o with slots:=sl}
 free: ∀b o,h.get? b=p5 o->H b=ξ->b∉ex->H' b=ξ
 there: ∀b o,h.get? b=p5 o->b∉ex-> ∃o',h'.get? b=p5 o'
 tups: ∀b xs,H b=p5 (.tup xs)->H' b=p5 (.tup xs)
 frzs: ∀b o u,H b=p5 (.frz o u)->H' b=p5 (.frz o u)
 tbls: ∀b ps,H b=p5 (.tbl ps)-> ∃more,H' b=p5 (.tbl (ps++more))
section
variable {h h1 h':Heap}
theorem Un.any(u:Un fs ex H H1 h h1)(q:h.get? b=p5 ob)(n:H b=ξ)(a:b∉ex): ∃d,h1.get? b=p5 {ob with slots:=d}:=by
 by_cases c:b∈fs
 ·exact u.slot b ob q n c a
 ·exact⟨ob.slots,u.keep b ob q n c a⟩
theorem Un.trans(a:Un fs ex H H1 h h1)(b:Un fs ex H1 H2 h1 h2):Un fs ex H H2 h h2 where
 keep:=λc ob q n f d=>b.keep c ob (a.keep c ob q n f d) (a.free c ob q n d) f d
 slot:=λc ob q n f d=>by
  obtain⟨m,e⟩:=a.slot c ob q n f d;obtain⟨g,i⟩:=b.slot c _ e (a.free c ob q n d) f d;exact⟨g,i⟩
 free:=λc ob q n d=>by
  obtain⟨o',e⟩:=a.there c ob q d;exact b.free c o' e (a.free c ob q n d) d
 there:=λc ob q d=>by
  obtain⟨o',e⟩:=a.there c ob q d;exact b.there c o' e d
 tups:=λc xs q=>b.tups c xs (a.tups c xs q)
 frzs:=λc ob xs q=>b.frzs c ob xs (a.frzs c ob xs q)
 tbls:=λc l q=>by
  obtain⟨k,e⟩:=a.tbls c l q;obtain⟨j,i⟩:=b.tbls c _ e;exact⟨k++j,by nofun⟩
theorem Un.kept(k: ∀b u,h.get? b=p5 u->h'.get? b=p5 u):Un fs ex H H h h':=
 ⟨λb ob q _ _ _=>k b ob q,λb ob q _ _ _=>⟨ob.slots,k b ob q⟩,λ_ _ _ n _=>n,λb ob q _=>⟨ob,k b ob q⟩,λ_ _ q=>q,λ_ _ _ q=>q,λ_ a q=>⟨#[],by rw[q];rfl⟩⟩
theorem Un.refl:Un fs ex H H h h:=Un.kept λ_ _ q=>q
theorem Un.laid(k: ∀b u,h.get? b=p5 u->h'.get? b=p5 u)(d:h.objs.size<=a)(c:H a=ξ):Un fs ex H (aV H a o) h h' where
 keep:=λb u q _ _ _=>k b u q
 slot:=λb u q _ _ _=>⟨u.slots,k b u q⟩
 free:=λb u q n _=>by rw[az (SW (SH (Sw q) d))];exact n
 there:=λb u q _=>⟨u,k b u q⟩
 tups:=λb xs q=>by rw[az (bV q c)];exact q
 frzs:=λb u xs q=>by rw[az (bV q c)];exact q
 tbls:=λb e q=>⟨#[],by rw[az (bV q c),q];rfl⟩
theorem Un.write(f:ME (H x))(l:e=x\/H e=p5 (.own x))(k: ∀b u,b≠e->h.get? b=p5 u->h'.get? b=p5 u)(g: ∃u,h'.get? e=p5 u):Un fs ex H (aV H x o) h h':=by
 have i: ∀b,H b=ξ->b≠x:=λb n z=>by subst z;rw[n] at f;exact f
 have d: ∀b,H b=ξ->b≠e:=λb n z=>by
  nofun
 have c: ∀b u,H b=p5 u-> ¬ME (p5 u)->b≠x:=λb u q j z=>by nofun
 refine⟨λb u q n _ _=>k b u (d b n) q,λb u q n _ _=>⟨u.slots,k b u (d b n) q⟩,λb u q n _=>by rw[az (i b n)];exact n,λb u q _=>?_,
  λb xs q=>by rw[az (c b _ q λz=>z)];exact q,λb u xs q=>by rw[az (c b _ q λz=>z)];exact q,λb m q=>⟨#[],by rw[az (c b _ q λz=>z),q];rfl⟩⟩
 by_cases a:b=e
 ·nofun
 ·exact⟨u,k b u a q⟩
end
def trk(h:Heap)(H:Hp):List Addr:=(R9 h.objs.size).filter λa=>(H a).isSome
def vU(h:Heap)(H:Hp):Heap:=W.hideAll h (trk h H)
theorem CB(h:Heap)(H:Hp):(vU h H).objs.size=h.objs.size:=W.hideAll_size _ _
theorem Gb {h:Heap}(e:h.get? b=p5 o)(n:H b=ξ):(vU h H).get? b=p5 o:=
 W.hideAll_get _ e λa=>by
  have q:(H b).isSome=true:=(S4.mp a).2;nofun
theorem KZ {h:Heap}(e:(vU h H).get? b=p5 o):h.get? b=p5 o/\H b=none:=by
 have a:h.get? b=p5 o:=W.of_hideAll (trk h H) e;refine⟨a,?_⟩;cases q:H b with
 |none=>rfl
 |some x=>
  have c:b∈trk h H:=S4.mpr ⟨SE.mpr (Sw a),by simp[q]⟩;have z:(vU h H).get? b=none:=W.hideAll_none (trk h H) c;nofun
structure Mod(K:Sf)(mg:Str->Option Sb)(base:Heap):Prop where
 kin:K.In base
 glob:base.Ns Ut mg
 blt: ∃mb,base.Ns jab mb/\ ∀x:Str,x≠"__name__"->mb x=TN x
 nolimit:base.NoLimit
structure Cx where
 prog:SS
 w:Tf
 K:Sf
 mg:Str->Option Sb
 base:Heap
 A:Tb
 N:List Str
 s₀:Sc
 H₀:Hp
 env:Env
 outer:List Env
 stack:List Env
 ex:List Addr
 fn:Str->Bool
 calm:Bool
 pn:List (Addr×Obj)
 xe:Sb->Sc->Prop
def frs(l:List Env):List Addr:=l.filterMap (·.frame)
abbrev Cx.fs(X:Cx):List Addr:=frs X.outer
def oe(a:U8)(x:Str):Prop:=a.names.lookup x=p5 .local\/a.names.lookup x=p5 .cell\/a.names.lookup x=p5 .free
def Ed(a:U8)(x:Str):Prop:=a.names.lookup x=p5 .local\/a.names.lookup x=p5 .cell
def QM(a:Env)(h:Heap)(m:Str->Option Sb)(x:Str)(u:Sb):Prop:=
 (a.kindOf x=p5 .local/\m x=p5 u)\/((a.kindOf x=p5 .cell\/a.kindOf x=p5 .free)/\ ∃c,a.cells.lookup x=p5 c/\h.IsCell c (p5 u))
structure Cx.Ok(X:Cx):Prop where
 mod:Mod X.K X.mg X.base
 kind:X.env.scope.kind=.function
 glob:X.env.globals=Ut
 blt:X.env.builtins=jab
 above:X.s₀.heap.objs.size<=X.env.locals
 inj: ∀x y c,X.env.cells.lookup x=p5 c->X.env.cells.lookup y=p5 c->x=y
 has: ∀x,(X.env.kindOf x=p5 .cell\/X.env.kindOf x=p5 .free)-> ∃c,X.env.cells.lookup x=p5 c
 cab: ∀x c,X.fn x=ζ->X.env.cells.lookup x=p5 c->X.s₀.heap.objs.size<=c
 hd:X.calm=ζ->X.A.handled=ξ
 frames:X.A.frames=p5 X.stack
 stk:X.stack=X.outer\/(X.stack=X.env::X.outer/\X.env.frame=p5 X.env.locals)
 exf: ∀b∈X.ex,b≠X.env.locals/\ ∀x c,X.env.cells.lookup x=p5 c->c≠b
 bs: ∀b o,X.base.get? b=p5 o->X.s₀.heap.get? b=p5 o/\X.H₀ b=ξ
 bsz:X.base.objs.size<=X.s₀.heap.objs.size
 noex: ∀b o,X.base.get? b=p5 o->b∉X.ex
 exfs: ∀b∈X.ex,b∉X.fs
 funs:X.s₀.heap.FunFrames X.base X.outer
 frf: ∀b∈X.fs,X.H₀ b=ξ
structure Inv(X:Cx)(aa:List (Addr×Obj))(σ:List (Option V))(H:Hp)(s:Sc):Prop where
 ok:X.Ok
 os:s.os=X.s₀.os
 bare:Xv s.gens
 base:Un X.fs X.ex X.H₀ H X.s₀.heap s.heap
 loc: ∃m,s.heap.Ns X.env.locals m/\ ∀(i:Nat) (x:Str) (v:V),X.N[i]? =p5 x->σ[i]? =p5 (p5 v)->oe X.env.scope x-> ∃u,bS v u/\QM X.env s.heap m x u
 cell: ∀x c,X.env.cells.lookup x=p5 c-> ∃v,s.heap.IsCell c v
 free:H X.env.locals=ξ
 freeC: ∀x c,X.env.cells.lookup x=p5 c->H c=ξ
 pin: ∀p∈X.pn++aa,s.heap.get? p.1=p5 p.2/\H p.1=ξ/\p.1≠X.env.locals/\p.1∉X.fs/\ ∀v,p.2.data≠ .cell v
 hok:HOk X.prog X.w H s.heap
 len:σ.length=X.N.length
section
variable {X:Cx}{σ:List (Option V)}{H:Hp}{s:Sc}{h':Heap}
theorem Cx.Ok.nofr(ok:X.Ok){b:Addr}(e:X.base.get? b=p5 o):b∉X.fs:=λa=>by
 have:=(ok.funs.mem a).1;lia
theorem Inv.bs(I:Inv X aa σ H s): ∀b o,X.base.get? b=p5 o->s.heap.get? b=p5 o/\H b=none:=λb o e=>
 ⟨I.base.keep b o (I.ok.bs b o e).1 (I.ok.bs b o e).2 (I.ok.nofr e) (I.ok.noex b o e),I.base.free b o (I.ok.bs b o e).1 (I.ok.bs b o e).2 (I.ok.noex b o e)⟩
theorem Inv.bk(I:Inv X aa σ H s): ∀b o,X.base.get? b=p5 o->s.heap.get? b=p5 o:=λb o e=>(I.bs b o e).1
theorem Inv.mod(I:Inv X aa σ H s):Mod X.K X.mg X.base:=I.ok.mod
theorem Inv.kIn(I:Inv X aa σ H s):X.K.In s.heap:=I.ok.mod.kin.keeps I.bk
theorem Inv.fr(I:Inv X aa σ H s): ∃m,Fr X.base X.env.locals s.heap m:=
 let⟨m,hn,_⟩:=I.loc
 ⟨m,hn,I.bk,Tk I.ok.bsz I.ok.above⟩
theorem Inv.lt(I:Inv X aa σ H s):X.env.locals<s.heap.objs.size:=let⟨_,hn,_⟩:=I.loc;hn.lt
theorem Inv.sz(I:Inv X aa σ H s):X.s₀.heap.objs.size<=s.heap.objs.size:=Tk I.ok.above (UV I.lt)
theorem Inv.nofs(I:Inv X aa σ H s){a:Addr}(h:s.heap.objs.size<=a):a∉X.fs:=λb=>by
 obtain⟨_,o,c,_⟩:=I.ok.funs.mem b;exact absurd (SH (Sw c) (Tk I.sz h)) (Tv _)
theorem Inv.cne(I:Inv X aa σ H s): ∀x c,X.env.cells.lookup x=p5 c->c≠X.env.locals:=λx c e z=>by
 obtain⟨v,o,f,d⟩:=I.cell x c e;obtain⟨m,⟨o',es,ep,b,a,_⟩,_⟩:=I.loc;nofun
theorem Inv.funs(I:Inv X aa σ H s):s.heap.FunFrames X.base X.outer:=by
 have c: ∀(l:List Env),(∀b∈frs l,b∈X.fs)->X.s₀.heap.FunFrames X.base l->s.heap.FunFrames X.base l:=by
  intro l
  induction l with
  |nil=>intro _ _;trivial
  |cons m r i=>
   intro f h;obtain⟨k,⟨L,o,g,p,q,j⟩,n⟩:=h;have a:L∈X.fs:=f L (by grind[frs]);obtain⟨t,e⟩:=I.base.slot L o q (I.ok.frf L a) a λz=>I.ok.exfs L z a
   exact⟨k,⟨L,_,g,p,e,j⟩,i (λb d=>f b (by unfold frs;rw[XT,g];exact Sx _ d)) n⟩
 exact c X.outer (λ_ d=>d) I.ok.funs
theorem Inv.stack(I:Inv X aa σ H s):s.heap.FunFrames X.base X.stack:=by
 rcases I.ok.stk with e|⟨e,b⟩
 ·rw[e];exact I.funs
 ·rw[e];obtain⟨m,a,_⟩:=I.loc;refine .cons (by rw[I.ok.kind];decide) b a ?_ I.funs;exact Heap.get?_none_of_le (Tk I.ok.bsz I.ok.above)
theorem Inv.stkSub(I:Inv X aa σ H s): ∀b∈frs X.stack,b∈X.env.locals::X.fs:=λb a=>by
 rcases I.ok.stk with e|⟨e,c⟩
 ·nofun
 grind[frs]
theorem Inv.stkFree(I:Inv X aa σ H s): ∀b∈frs X.stack,H b=none:=λb a=>by
 rcases SU.mp (I.stkSub b a) with e|a
 ·rw[e];exact I.free
 ·obtain⟨_,o,c,_⟩:=I.ok.funs.mem a;exact I.base.free b o c (I.ok.frf b a) λz=>I.ok.exfs b z a
theorem Inv.step {g':Array jcp}{t':Nat}{d':Drawn}{ch:List Addr}(I:Inv X U σ H s)
 (h: ∀b∈ch,(b∈X.ex\/X.s₀.heap.objs.size<=b)/\b≠X.env.locals/\(∀x c,X.env.cells.lookup x=p5 c->c≠b)/\ ∀p∈X.pn++U,p.1≠b)
 (g: ∀b o,b≠X.env.locals->b∉X.fs->b∉ch->s.heap.get? b=p5 o->H b=ξ->h'.get? b=p5 o)
 (A: ∀b o,b≠X.env.locals->b∈X.fs->b∉ch->s.heap.get? b=p5 o->H b=ξ-> ∃P,h'.get? b=p5 {o with slots:=P}) (f: ∀b o,b∉ch->s.heap.get? b=p5 o->H b=ξ->H' b=ξ)
 (C: ∀b o,b∉ch->s.heap.get? b=p5 o-> ∃o',h'.get? b=p5 o')
 (G: ∀b xs,H b=p5 (.tup xs)->H' b=p5 (.tup xs)) (K: ∀b o u,H b=p5 (.frz o u)->H' b=p5 (.frz o u)) (E: ∀b L,H b=p5 (.tbl L)-> ∃J,H' b=p5 (.tbl (L++J)))
 (ns: ∀m,s.heap.Ns X.env.locals m->h'.Ns X.env.locals m) (Q:HOk X.prog X.w H' h') (hg:Xv g'):
 Inv X U σ H' {s with heap:=h',gens:=g',drawn:=d',toks:=t'}:=by
 have F: ∀b o,X.s₀.heap.get? b=p5 o->b≠X.env.locals:=λb o e=>SW (SH (Sw e) I.ok.above)
 have y: ∀b o,X.s₀.heap.get? b=p5 o->b∉X.ex->b∉ch:=λb o e a B=>by
  rcases(h b B).1 with z|z
  ·exact a z
  ·exact absurd (SH (Sw e) z) (Tv _)
 have eN: ∀x c,X.env.cells.lookup x=p5 c-> ∀v,s.heap.IsCell c v->h'.IsCell c v:=λx c e v O=>by
  obtain⟨o,D,R⟩:=O;have j:c∉ch:=λz=>(h c z).2.2.1 x c e rfl
  by_cases T:c∈X.fs
  ·obtain⟨P,q⟩:=A c o (I.cne x c e) T j D (I.freeC x c e);exact⟨_,q,R⟩
  ·exact⟨o,g c o (I.cne x c e) T j D (I.freeC x c e),R⟩
 refine⟨I.ok,I.os,hg,⟨λb o e n B a=>?_,λb o e n B a=>?_,λb o e n a=>?_,λb o e a=>?_,λb xs e=>G b xs (I.base.tups b xs e),λb o xs e=>K b o xs (I.base.frzs b o xs e),λb L e=>?_⟩,?_,λx c e=>?_,?_,λx c e=>?_,λp S=>?_,Q,I.len⟩
 ·exact g b o (F b o e) B (y b o e a) (I.base.keep b o e n B a) (I.base.free b o e n a)
 ·obtain⟨P,t⟩:=I.base.slot b o e n B a;obtain⟨N,M⟩:=A b _ (F b o e) B (y b o e a) t (I.base.free b o e n a);exact⟨N,M⟩
 ·obtain⟨o',t⟩:=I.base.there b o e a;exact f b o' (y b o e a) t (I.base.free b o e n a)
 ·obtain⟨o',t⟩:=I.base.there b o e a;exact C b o' (y b o e a) t
 ·obtain⟨m1,t⟩:=I.base.tbls b L e;obtain⟨m2,M⟩:=E b _ t;exact⟨m1++m2,by nofun⟩
 ·obtain⟨m,hn,Y⟩:=I.loc;refine⟨m,ns m hn,λi x v t M Z=>?_⟩;obtain⟨u,r,l⟩:=Y i x v t M Z;refine⟨u,r,?_⟩;rcases l with l|⟨k,c,e,z⟩
  ·exact .inl l
  ·exact .inr ⟨k,c,e,eN x c e _ z⟩
 ·obtain⟨v,z⟩:=I.cell x c e;exact⟨v,eN x c e v z⟩
 ·obtain⟨m,⟨o,_,_,D,_⟩,_⟩:=I.loc;exact f _ o (λz=>(h _ z).2.1 rfl) D I.free
 ·obtain⟨v,o,D,R⟩:=I.cell x c e;exact f c o (λz=>(h c z).2.2.1 x c e rfl) D (I.freeC x c e)
 ·obtain⟨e,n,V,W,d⟩:=I.pin p S;have j:p.1∉ch:=λz=>(h p.1 z).2.2.2 p S rfl
  exact⟨g p.1 p.2 V W j e n,f p.1 p.2 j e n,V,W,d⟩
theorem Inv.un {t':Nat}(I:Inv X aa σ H s)(u:Un X.fs [] H H' s.heap h')(c:HOk X.prog X.w H' h'):Inv X aa σ H' {s with heap:=h',toks:=t'}:=by
 obtain⟨m,⟨o,es,ep,h,r⟩,_⟩:=id I.loc;obtain⟨p,i⟩:=u.any h I.free (by simp)
 exact I.step (g':=s.gens) (d':=s.drawn) (ch:=[]) (λ_ z=>nomatch z) (λb o _ g _ e n=>u.keep b o e n g (by omega)) (λb o _ g _ e n=>u.slot b o e n g (by omega)) (λb o _ e n=>u.free b o e n (by omega)) (λb o _ e=>u.there b o e (by omega)) u.tups u.frzs u.tbls (λl k=>by
  obtain⟨o',f,d,a,j⟩:=k
  rw[h] at a;cases a;exact⟨_,f,d,i,j⟩) c I.bare
theorem Inv.call {g':Array jcp}{t':Nat}{d':Drawn}{ch:List Addr}(I:Inv X k σ H s)(u:Un (frs X.stack) ch H H' s.heap h')(h:HOk X.prog X.w H' h')(t:Xv g')
 (d: ∀b∈ch,(b∈X.ex\/X.s₀.heap.objs.size<=b)/\b≠X.env.locals/\(∀x c,X.env.cells.lookup x=p5 c->c≠b)/\ ∀p∈X.pn++k,p.1≠b):
 Inv X k σ H' {s with heap:=h',gens:=g',drawn:=d',toks:=t'}:=by
 obtain⟨m,⟨o,es,ep,l,r⟩,_⟩:=id I.loc;obtain⟨B,g⟩:=u.any l I.free λz=>(d _ z).2.1 rfl
 exact I.step (ch:=ch) d (λb o g y a e n=>u.keep b o e n (λz=>(SU.mp (I.stkSub b z)).elim g y) a) (λb o _ _ a e n=>u.any e n a) (λb o a e n=>u.free b o e n a) (λb o a e=>u.there b o e a) u.tups u.frzs u.tbls (λA v=>by
  obtain⟨o',j,i,f,q⟩:=v
  rw[l] at f;cases f;exact⟨_,j,i,g,q⟩) h t
theorem Inv.turned {t':Nat}{it:Addr}(I:Inv X f σ H s)(k: ∀b o,b≠it->s.heap.get? b=p5 o->h'.get? b=p5 o)(A:H it=ξ)(d:it≠X.env.locals)
 (g:it∈X.ex\/X.s₀.heap.objs.size<=it) (l: ∀x c,X.env.cells.lookup x=p5 c->c≠it) (h: ∀p∈X.pn++f,p.1≠it):Inv X f σ H {s with heap:=h',toks:=t'}:=by
 have j: ∀b u,H b=p5 u->b≠it:=λb u e z=>by nofun
 refine I.step (g':=s.gens) (d':=s.drawn) (ch:=[it]) (λb t=>?_) (λb o _ _ a e _=>k b o (λz=>a (by simp[z])) e) (λb o _ _ a e _=>⟨o.slots,k b o (λz=>a (by simp[z])) e⟩) (λ_ _ _ _ n=>n)
  (λb o a e=>⟨o,k b o (λz=>a (by simp[z])) e⟩) (λ_ _ e=>e) (λ_ _ _ e=>e) (λb y e=>⟨#[],by rw[e];rfl⟩) (λm i=>?_) (λb u e=>?_) I.bare
 ·have e:b=it:=by simpa using t
  subst e;exact⟨g,d,l,h⟩
 ·obtain⟨o,es,ep,w,r⟩:=i;exact⟨o,es,ep,k _ o (S9 d) w,r⟩
 ·refine(I.hok b u e).stay (λc v a q=>k c v ?_ q) (λ_ q=>q) λ_ _ q=>q
  grind
theorem Inv.tok(I:Inv X aa σ H s)(t:Nat):Inv X aa σ H {s with toks:=t}:=I.un (h':=s.heap) (t':=t) Un.refl I.hok
theorem Inv.kept {t':Nat}(I:Inv X aa σ H s)(k: ∀b u,s.heap.get? b=p5 u->h'.get? b=p5 u):Inv X aa σ H {s with heap:=h',toks:=t'}:=I.un (Un.kept k) (I.hok.kept k)
theorem Inv.laid {a:Addr}{o:HO}{t':Nat}(I:Inv X aa σ H s)(k: ∀b u,s.heap.get? b=p5 u->h'.get? b=p5 u)(d:s.heap.objs.size<=a)(c:b6 X.prog X.w (aV H a o) h' a o):
 Inv X aa σ (aV H a o) {s with heap:=h',toks:=t'}:=I.un (Un.laid k d (I.hok.fresh d)) (I.hok.laid k d c)
theorem Inv.write {x e:Addr}{t':Nat}(I:Inv X aa σ H s)(f:ME (H x))(d:e=x\/H e=p5 (.own x))(k: ∀b u,b≠e->s.heap.get? b=p5 u->h'.get? b=p5 u)(a: ∃u,h'.get? e=p5 u)
 (c:b6 X.prog X.w (aV H x o) h' x o):Inv X aa σ (aV H x o) {s with heap:=h',toks:=t'}:=I.un (Un.write f d k a) (I.hok.write f d k a c)
theorem Inv.pins_of(I:Inv X aa σ H s)(h: ∀p∈a,s.heap.get? p.1=p5 p.2/\H p.1=ξ/\p.1≠X.env.locals/\p.1∉X.fs/\ ∀v,p.2.data≠ .cell v):Inv X a σ H s:=
 ⟨I.ok,I.os,I.bare,I.base,I.loc,I.cell,I.free,I.freeC,λp b=>(SL.mp b).elim (λz=>I.pin p (Tq _ z)) (h p),I.hok,I.len⟩
theorem xq {N:List Str}(c:N.Nodup){i j:Nat}(a:N[i]? =p5 x)(b:N[j]? =p5 x):i=j:=by
 grind[jbd]
theorem nN {M:Model}{A:Tb}{E:Sb->Sc->Prop}{i:Nat}{x:Str}{v:V}{u:Sb}{Q:Unit->Sc->Prop}(I:Inv X aa σ H s)(hN:X.N.Nodup)(hi:X.N[i]? =p5 x)(hx:Ed X.env.scope x)(r:bS v u)
 (h: ∀s',Inv X aa (σ.set i (p5 v)) H s'->(∃a,S8 a s.heap s'.heap/\(a=X.env.locals\/X.env.cells.lookup x=p5 a))->Q Unit.unit s') (hf:X.fn x=ζ\/X.env.scope.names.lookup x=p5 .local:=by first|exact .inl rfl|exact .inr rfl|assumption):Sy M A (storeName X.env x u) Q E s:=by
 obtain⟨m,hn,hl⟩:=id I.loc;have hcls:(X.env.scope.kind== .class||(X.env.scope.kind== .module&&X.env.locals !=X.env.globals))=false:=by rw[I.ok.kind];rfl
 have hiσ:i<σ.length:=by rw[I.len];exact(Sz.mp hi).1
 have cne:=I.cne;have tracked: ∀ {a:Addr} {h':Heap},(∃o,s.heap.get? a=p5 o/\H a=ξ)->S8 a s.heap h'->HOk X.prog X.w H h':=λ{a h'} ha hs b ob e=>by
  obtain⟨_,_,hfree⟩:=ha;refine(I.hok b ob e).stay (λc w' hc q=>(hs.2 c ?_).trans q) (λ_ q=>q) λ_ _ q=>q
  lia
 rcases hx with hk|hk
 ·refine wpAny_storeName_local hk hn (λh' hn' hs=>?_) hcls;obtain⟨oL,_,_,hoL,_⟩:=id hn;refine h _ ⟨I.ok,I.os,I.bare,⟨λb o e n hb hx=>?_,λb o e n hb hx=>?_,I.base.free,λb o e hx=>?_,I.base.tups,I.base.frzs,I.base.tbls⟩,⟨_,hn',λj y v' e1 e2 e3=>?_⟩,λy c e=>?_,I.free,I.freeC,λp hp=>?_,tracked ⟨oL,hoL,I.free⟩ hs,by simpa using I.len⟩ ⟨_,hs,.inl rfl⟩
  ·exact(hs.2 b (SW (SH (Sw e) I.ok.above))).trans (I.base.keep b o e n hb hx)
  ·obtain⟨sl,e1⟩:=I.base.slot b o e n hb hx;exact⟨sl,(hs.2 b (SW (SH (Sw e) I.ok.above))).trans e1⟩
  ·obtain⟨o',e1⟩:=I.base.there b o e hx;exact⟨o',(hs.2 b (SW (SH (Sw e) I.ok.above))).trans e1⟩
  ·by_cases hj:j=i
   ·subst hj;rw[hi] at e1;cases e1;rw[SX hiσ] at e2;cases e2;exact⟨u,r,.inl ⟨hk,by simp⟩⟩
   ·rw[SD (S9 hj)] at e2;obtain⟨u',r',q⟩:=hl j y v' e1 e2 e3;refine⟨u',r',?_⟩;rcases q with⟨k,e⟩|⟨k,c,e,z⟩
    ·refine .inl ⟨k,?_⟩;have:y≠x:=λe=>hj (xq hN e1 (e▸hi))
     nofun
    ·exact .inr ⟨k,c,e,z.sameBut hs (cne y c e)⟩
  ·obtain⟨w',z⟩:=I.cell y c e;exact⟨w',z.sameBut hs (cne y c e)⟩
  ·obtain⟨e,n,ne,nf,d⟩:=I.pin p hp;exact⟨(hs.2 p.1 ne).trans e,n,ne,nf,d⟩
 ·have hfn:X.fn x=true:=by
   nofun
  obtain⟨c,hc⟩:=I.ok.has x (.inl hk);obtain⟨w',z⟩:=I.cell x c hc;refine wpAny_storeName_cell I.ok.kind hk hc z (λh' hc' hs=>?_);obtain⟨oc,hoc,hocd⟩:=id z;refine h {s with heap:=h'} ⟨I.ok,I.os,I.bare,⟨λb o e n hb hx=>?_,λb o e n hb hx=>?_,I.base.free,λb o e hx=>?_,I.base.tups,I.base.frzs,I.base.tbls⟩,⟨m,hn.sameBut hs (S9 (cne x c hc)),λj y v' e1 e2 e3=>?_⟩,λy c' e=>?_,I.free,I.freeC,λp hp=>?_,tracked ⟨oc,hoc,I.freeC x c hc⟩ hs,by simpa using I.len⟩ ⟨c,hs,.inr hc⟩
  ·exact(hs.2 b (SW (SH (Sw e) (I.ok.cab x c hfn hc)))).trans (I.base.keep b o e n hb hx)
  ·obtain⟨sl,e1⟩:=I.base.slot b o e n hb hx;exact⟨sl,(hs.2 b (SW (SH (Sw e) (I.ok.cab x c hfn hc)))).trans e1⟩
  ·obtain⟨o',e1⟩:=I.base.there b o e hx;exact⟨o',(hs.2 b (SW (SH (Sw e) (I.ok.cab x c hfn hc)))).trans e1⟩
  ·by_cases hj:j=i
   ·subst hj;rw[hi] at e1;cases e1;rw[SX hiσ] at e2;cases e2;exact⟨u,r,.inr ⟨.inl hk,c,hc,hc'⟩⟩
   ·rw[SD (S9 hj)] at e2;obtain⟨u',r',q⟩:=hl j y v' e1 e2 e3;refine⟨u',r',?_⟩;rcases q with q|⟨k,c',e,z'⟩
    ·exact .inl q
    ·refine .inr ⟨k,c',e,z'.sameBut hs ?_⟩;rintro rfl;exact hj (xq hN e1 (I.ok.inj _ _ _ e hc▸hi))
  ·by_cases hcc:c'=c
   ·grind
   ·obtain⟨w2,z2⟩:=I.cell y c' e;exact⟨w2,z2.sameBut hs hcc⟩
  ·obtain⟨e,n,ne,nf,d⟩:=I.pin p hp;refine⟨(hs.2 p.1 ?_).trans e,n,ne,nf,d⟩;intro q;nofun
theorem my(I:Inv X aa σ H s)(b:X.N.Nodup)(e:X.N[i]? =p5 x)(d:Ed X.env.scope x)(r:bS v u)
 (h: ∀s',Inv X aa (σ.set i (p5 v)) H s'->Q Unit.unit s') (c:X.fn x=ζ\/X.env.scope.names.lookup x=p5 .local:=by first|exact .inl rfl|exact .inr rfl|assumption):Sy M A (storeName X.env x u) Q E s:=
 nN I b e d r (λs' a _=>h s' a) c
theorem Inv.call' {s':Sc}{ch:List Addr}(I:Inv X f σ H s)(h:s'.os=s.os)(u:Un (frs X.stack) ch H H' s.heap s'.heap)(a:HOk X.prog X.w H' s'.heap)(g:Xv s'.gens)
 (d: ∀b∈ch,(b∈X.ex\/X.s₀.heap.objs.size<=b)/\b≠X.env.locals/\(∀x c,X.env.cells.lookup x=p5 c->c≠b)/\ ∀p∈X.pn++f,p.1≠b):Inv X f σ H' s':=by
 obtain⟨h',g',d',t',o'⟩:=s';have e:o'=s.os:=h;subst e;exact I.call (g':=g') (t':=t') (d':=d') u a g d
end
abbrev XK:=Sb->Option Addr->Hp->Prop
abbrev St:=List (Option V)
abbrev VK:=V->Hp->Prop
abbrev TE:=St->Hp->VK->Prop
abbrev TT:=St->Hp->(Bool->Hp->Prop)->Prop
abbrev TA:=St->Hp->(List V->Hp->Prop)->Prop
structure ue where
 nx:St->Hp->Prop
 rt:VK
 bk:St->Hp->Prop:=λ_ _=>False
 ct:St->Hp->Prop:=λ_ _=>False
abbrev TS:=ue->St->Hp->Prop
def EP(X:Cx)(b:List (Addr×Obj))(σ:St)(Q:VK)(u:Sb)(s':Sc):Prop:= ∃v a,Inv X b σ a s'/\bS v u/\Q v a
def TP(X:Cx)(c:List (Addr×Obj))(σ:St)(Q:Bool->Hp->Prop)(b:Bool)(s':Sc):Prop:= ∃a,Inv X c σ a s'/\Q b a
def AP(X:Cx)(b:List (Addr×Obj))(σ:St)(Q:List V->Hp->Prop)(us:List Sb)(s':Sc):Prop:= ∃vs a,Inv X b σ a s'/\cb vs us/\Q vs a
def SP(X:Cx)(c:List (Addr×Obj))(D:ue)(f:Flow)(s':Sc):Prop:=
 match f with
 | .next=> ∃a b,Inv X c a b s'/\D.nx a b
 | .brk=> ∃a b,Inv X c a b s'/\D.bk a b
 | .cont=> ∃a b,Inv X c a b s'/\D.ct a b
 | .ret u=> ∃v a b,Inv X c a b s'/\bS v u/\D.rt v b
def PE(X:Cx)(e:Expr)(t:TE):Prop:=
 ∀(a:List (Addr×Obj)) (s:Sc) (σ:St) (H:Hp) (Q:VK),Inv X a σ H s->t σ H Q->Sy (model X.prog X.w) X.A (eval e X.env) (EP X a σ Q) X.xe s
def PT(X:Cx)(e:Expr)(t:TT):Prop:=
 ∀(a:List (Addr×Obj)) (s:Sc) (σ:St) (H:Hp) (Q:Bool->Hp->Prop),Inv X a σ H s->t σ H Q->Sy (model X.prog X.w) X.A (isTrue e X.env (eval e X.env)) (TP X a σ Q) X.xe s
def PW(X:Cx)(e:Expr)(t:TT):Prop:=
 ∀(a:Sem Sb) (b:List (Addr×Obj)) (s:Sc) (σ:St) (H:Hp) (Q:Bool->Hp->Prop),Inv X b σ H s->t σ H Q->Sy (model X.prog X.w) X.A (isTrue e X.env a) (TP X b σ Q) X.xe s
theorem PW.pt(h:PW X e t):PT X e t:=h _
def PA(X:Cx)(es:List Expr)(t:TA):Prop:=
 ∀(a:Pos) (b:List (Addr×Obj)) (s:Sc) (σ:St) (H:Hp) (Q:List V->Hp->Prop),Inv X b σ H s->t σ H Q->Sy (model X.prog X.w) X.A (spliced (Ue a (Sv es X.env))) (AP X b σ Q) X.xe s
def PS(X:Cx)(st:Stmt)(t:TS):Prop:=
 ∀(a:List (Addr×Obj)) (s:Sc) (σ:St) (H:Hp) (D:ue),Inv X a σ H s->t D σ H->Sy (model X.prog X.w) X.A (exec st X.env) (SP X a D) X.xe s
def PSs(X:Cx)(st:List Stmt)(t:TS):Prop:=
 ∀(a:List (Addr×Obj)) (s:Sc) (σ:St) (H:Hp) (D:ue),Inv X a σ H s->t D σ H->Sy (model X.prog X.w) X.A (execs st X.env) (SP X a D) X.xe s
theorem bC {α:Type}{t:Sem α}{Q b:α->Sc->Prop}{M:Model}{A:Tb}{E:Sb->Sc->Prop}{s:Sc}(h:Sy M A t Q E s)(c: ∀a s,Q a s->b a s):Sy M A t b E s:=Tl h c λ_ _ x=>x
section
variable {X:Cx}
def PD(i:Nat):TE:=λσ H Q=> ∃v,σ[i]? =p5 (p5 v)/\Q v H
def tC(v:V):TE:=λ_ H Q=>Q v H
theorem MH {i:Nat}{x:Str}{pos:Pos}(hN:X.N[i]? =p5 x)(hv:oe X.env.scope x)(hd:(x==("__debug__":Str))=false:=by decide)(hcd:(x==("__classdict__":Str))=false:=by decide):PE X (.Name x pos) (PD i):=by
 intro aa s σ H Q I h;obtain⟨v,e,h⟩:=h;obtain⟨m,hn,hl⟩:=I.loc;obtain⟨u,r,l⟩:=hl i x v hN e hv;have fin:EP X aa σ Q u s:=⟨v,H,I,r,h⟩
 rcases l with⟨hk,hm⟩|⟨hk,c,hc,hcell⟩
 ·exact jcq (wpAny_loadName_local I.ok.kind hk hn hm fin) hd
 ·rcases hk with hk|hk
  ·exact jcq (wpAny_loadName_cell I.ok.kind hk hc hcell fin) hd
  ·exact jcq (wpAny_loadName_free I.ok.kind hk hc hcell fin hcd) hd
theorem Nv {i j pos}:PE X (.Constant (.int i) j pos) (tC (.int i)):=λ_ _ _ H _ I h=>wpAny_Constant_int ⟨.int i,H,I.tok _,⟨_,rfl⟩,h⟩
theorem Pf {b j pos}:PE X (.Constant (.bool b) j pos) (tC (.bl b)):=λ_ _ _ H _ I h=>Constant_bool ⟨.bl b,H,I,rfl,h⟩
def Gl(X:Cx)(x:Str):Prop:=X.env.kindOf x=p5 .globalImplicit
theorem KS{H:Hp}(I:Inv X aa σ H s)(b:Gl X x)(c:X.mg x=p5 u)(h:Q u s)
 (a:(x==("__debug__":Str))=false:=by decide):Sy (model X.prog X.w) X.A (eval (.Name x pos) X.env) Q E s:=
 X9 I.ok.kind b (Calls.loadGlobal_global (by rw[I.ok.glob];exact I.mod.glob.keeps I.bk) c h) a
theorem jy{H:Hp}{u:Sb}(I:Inv X aa σ H s)(d:Gl X x)(c:X.mg x=ξ)(hv:TN x=p5 u)(h:Q u s)
 (b:x≠"__name__":=by decide) (e:(x==("__debug__":Str))=false:=by decide):Sy (model X.prog X.w) X.A (eval (.Name x pos) X.env) Q E s:=by
 obtain⟨g,a,f⟩:=I.mod.blt;exact X9 I.ok.kind d (Calls.loadGlobal_builtin (by rw[I.ok.glob];exact I.mod.glob.keeps I.bk) c (by rw[I.ok.blt];exact a.keeps I.bk) ((f x b).trans hv) h) e
theorem Ju{v:V}(c:Gl X x)(d:X.mg x=ξ)(hv:TN x=p5 u)(r:bS v u)(b:x≠"__name__":=by decide)(a:(x==("__debug__":Str))=false:=by decide):PE X (.Name x pos) (tC v):=
 λ_ _ _ H _ I h=>jy I c d hv ⟨v,H,I,r,h⟩ b a
variable {a b:Expr}
def PC(X:Cx)(op:CmpOp)(a b:Expr)(t:TE):Prop:=
 ∀(e:List (Addr×Obj)) (s:Sc) (σ:St) (H:Hp) (Q:VK),Inv X e σ H s->t σ H Q->
  Sy (model X.prog X.w) X.A (eval a X.env) (λv c=>Sy (model X.prog X.w) X.A (eval b X.env) (λu d=>Sy (model X.prog X.w) X.A (Ub op v u) (EP X e σ Q) X.xe d) X.xe c) X.xe s
def tB(t:TE):TT:=λσ H Q=>t σ H λx a=> ∃c,x=.bl c/\Q c a
theorem wB(h:PC X op a b t)(f:UG op b=false:=by first|exact e _ () ()|rfl):PT X (.Compare a [op] [b] pos) (tB t):=by
 intro l s σ H Q I hw;refine Zq (bC (h l s σ H _ I hw) λv o f=>bC f λu p i=>bC i λc n ⟨x,k,g,j,m⟩=>?_) f;obtain⟨d,rfl,q⟩:=m;cases j;exact Uu ⟨k,g,q⟩
variable {rest:List Expr}
def Ql(t u:TT):TT:=λσ H Q=>t σ H λc a=>if c=ζ then u σ a Q else Q θ a
def RQ(t u:TT):TT:=λσ H Q=>t σ H λc a=>if c=ζ then Q ζ a else u σ a Q
def Q8(t:TT):TT:=λσ H Q=>t σ H λc a=>Q (!c) a
theorem vr(d:PT X a tA):PW X (.BoolOp .And [a] pos) tA:=by
 intro g b s σ H Q I h;refine isTrue_and (bC (d b s σ H Q I h) λc f e=>?_);cases c with
 |true=>exact isTrue_and_nil e
 |false=>exact e
theorem wd(d:PT X a tA):PW X (.BoolOp .Or [a] pos) tA:=by
 intro g b s σ H Q I h;refine isTrue_or (bC (d b s σ H Q I h) λc f e=>?_);cases c with
 |false=>exact isTrue_or_nil e
 |true=>exact e
theorem v7(m:PT X a tA)(l:PW X (.BoolOp .And (b::rest) pos) tB'):PW X (.BoolOp .And (a::b::rest) pos) (Ql tA tB'):=by
 intro k e s σ H Q I h;refine isTrue_and (bC (m e s σ H _ I h) λc j d=>?_);obtain⟨i,f,g⟩:=d;cases c with
 |true=>exact l k e j σ i Q f g
 |false=>exact⟨i,f,g⟩
theorem w4(m:PT X a tA)(l:PW X (.BoolOp .Or (b::rest) pos) tB'):PW X (.BoolOp .Or (a::b::rest) pos) (RQ tA tB'):=by
 intro k e s σ H Q I h;refine isTrue_or (bC (m e s σ H _ I h) λc j d=>?_);obtain⟨i,f,g⟩:=d;cases c with
 |true=>exact⟨i,f,g⟩
 |false=>exact l k e j σ i Q f g
theorem Md(e:PT X a tA):PT X (.UnaryOp .Not a pos) (Q8 tA):=by
 intro b s σ H Q I h;exact isTrue_not (e b s σ H (λc d=>Q (!c) d) I h)
def Oj(d b:TE):TE:=λσ H Q=>d σ H λx a=> ∃c,x=.bl c/\if c=ζ then b σ a Q else Q (.bl θ) a
def OY(a:TE):TE:=λσ H Q=>a σ H λx b=> ∃c,x=.bl c/\Q (.bl (!c)) b
theorem Mr {op}(h:PE X a t):PE X (.BoolOp op [a] pos) t:=λb s σ H Q I hw=>BoolOp_one (h b s σ H Q I hw)
theorem LK(k:PE X a ta)(m:PE X (.BoolOp .And (b::rest) pos) tb):PE X (.BoolOp .And (a::b::rest) pos) (Oj ta tb):=by
 intro i s σ H Q I h;refine BoolOp_and (bC (k i s σ H _ I h) λv j e=>?_);obtain⟨x,g,f,l,d⟩:=e;obtain⟨c,rfl,d⟩:=d;cases l;refine Uu ?_
 cases c with
 |true=>exact m i j σ g Q f d
 |false=>exact⟨.bl θ,g,f,rfl,d⟩
theorem Ni(j:PE X a ta):PE X (.UnaryOp .Not a pos) (OY ta):=by
 intro e s σ H Q I h;refine UnaryOp_ (bC (j e s σ H _ I h) λv k b=>?_);obtain⟨x,i,f,g,d⟩:=b;obtain⟨c,rfl,d⟩:=d;cases g;exact not_of (Uu ⟨.bl (!c),i,f,rfl,d⟩)
def RY(t:TT)(d b:TE):TE:=λσ H Q=>t σ H λc a=>if c=ζ then d σ a Q else b σ a Q
theorem F8(l:PT X c tA)(n:PE X a ta)(m:PE X b tb):PE X (.IfExp c a b pos) (RY tA ta tb):=by
 intro e s σ H Q I h;refine wpAny_IfExp (bC (l e s σ H _ I h) λd i f=>?_);obtain⟨k,g,j⟩:=f;cases d with
 |true=>exact n e i σ k Q g j
 |false=>exact m e i σ k Q g j
end
def SqL(K:Sf)(H:Hp)(a:Addr)(xs:List V):Prop:=
 Rd H a (.lst xs)\/
  ∃(o:Obj) (b:Array Sb) (n:Nat),K.lookup a=p5 o/\o.cls=.type "list"/\o.dict=ξ/\o.data=.seq b n/\b.size<=SC/\cb xs b.toList
def SqT(K:Sf)(H:Hp)(a:Addr)(xs:List V):Prop:=
 Rd H a (.tup xs)\/
  ∃(o:Obj) (b:Array Sb) (n:Nat),K.lookup a=p5 o/\o.cls=.type "tuple"/\o.data=.seq b n/\b.size<=SC/\cb xs b.toList/\o.dict=ξ
def Rr:Sb->Option V
 | .none=>p5 .non
 | .bool b=>p5 (.bl b)
 | .int i _=>p5 (.int i)
 | .str x _=>p5 (.str x)
 | .bytes b _=>p5 (.byt b)
 | .float b _=>p5 (.flt b)
 | .ref a=>p5 (.ref a)
 | .type n=>p5 (.ty n)
 |_=>ξ
theorem bS.abs(r:bS x u):Rr u=p5 x:=by
 cases x with
 |non=>cases r;rfl
 |bl _=>cases r;rfl
 |int _=>obtain⟨t,rfl⟩:=r;rfl
 |str _=>obtain⟨t,rfl⟩:=r;rfl
 |byt _=>obtain⟨t,rfl⟩:=r;rfl
 |flt _=>obtain⟨t,rfl⟩:=r;rfl
 |ref _=>cases r;rfl
 |ty _=>cases r;rfl
theorem bS.inj(r:bS x u)(q:bS y u):x=y:=XG (r.abs.symm.trans q.abs)
theorem cb.inj: ∀ {xs ys:List V} {us:List Sb},cb xs us->cb ys us->xs=ys
 |_,_,_,.nil,.nil=>rfl
 |_,_,_,.cons r t,.cons a t'=>by rw[r.inj a,cb.inj t t']
section
variable {X:Cx}{s:Sc}{xs:List V}
theorem SqL.of {K:Sf}(h:H a=p5 (.lst xs)):SqL K H a xs:=.inl (.inl h)
theorem SqT.of {K:Sf}(h:H a=p5 (.tup xs)):SqT K H a xs:=.inl (.inl h)
theorem Inv.list(I:Inv X aa σ H s)(h:SqL X.K H a xs): ∃b:List Sb,cb xs b/\PlainL s.heap a b.toArray/\xs.length<=sizeLine:=by
 rcases h with h|⟨o,b,n,f,d,c,g,hz,r⟩
 ·obtain⟨z,b,n,r,e⟩:=h.ok I.hok;exact⟨b,r,⟨_,n,e,rfl,rfl,rfl⟩,z⟩
 ·refine⟨b.toList,r,⟨o,n,I.kIn a o f,d,c,by omega⟩,?_⟩;have e:=r.length;nofun
theorem Inv.tuple(I:Inv X aa σ H s)(h:SqT X.K H a xs): ∃b:List Sb,cb xs b/\jco s.heap a b.toArray/\xs.length<=sizeLine:=by
 rcases h with h|⟨o,b,n,d,c,f,hz,r,_⟩
 ·obtain⟨z,b,r,p,_⟩:=h.ok I.hok;exact⟨b,r,p,z⟩
 ·refine⟨b.toList,r,⟨o,I.kIn a o d,c,n,by omega⟩,?_⟩;have e:=r.length;nofun
theorem Inv.tupleN(I:Inv X aa σ H s)(h:SqT X.K H a xs):(∃o,s.heap.get? a=p5 o/\o.cls=.type "tuple")/\ ∃o,s.heap.get? a=p5 o/\o.dict=none:=by
 rcases h with h|⟨o,b,n,d,g,l,hz,r,i⟩
 ·obtain⟨z,b,r,⟨ob,e,c,_⟩,f,k,j⟩:=h.ok I.hok;exact⟨⟨ob,e,c⟩,f,k,j⟩
 ·exact⟨⟨o,I.kIn a o d,g⟩,o,I.kIn a o d,i⟩
theorem Inv.list_inj(I:Inv X aa σ H s)(h:SqL X.K H a xs)(h':SqL X.K H a ys):xs=ys:=by
 obtain⟨b,r,⟨o,n,e,_,_,d⟩,_⟩:=I.list h;obtain⟨its',f,⟨o',i,c,_,_,d'⟩,_⟩:=I.list h';rw[e] at c;cases c;rw[d] at d';injection d' with g _
 have:b=its':=by lia
 subst this;exact r.inj f
theorem Inv.tuple_inj(I:Inv X aa σ H s)(h:SqT X.K H a xs)(h':SqT X.K H a ys):xs=ys:=by
 obtain⟨b,r,⟨o,e,_,n,d⟩,_⟩:=I.tuple h;obtain⟨its',f,⟨o',c,_,i,d'⟩,_⟩:=I.tuple h';rw[e] at c;cases c;rw[d] at d';injection d' with g _
 have:b=its':=by nofun
 subst this;exact r.inj f
end
abbrev Cx.wish(X:Cx)(E:Sb->Sc->Prop):Cx:={X with xe:=E}
abbrev Cx.nox(X:Cx):Cx:=X.wish λ_ _=>False
theorem Cx.Ok.wish {X:Cx}(ok:X.Ok)(E:Sb->Sc->Prop):(X.wish E).Ok:=
 ⟨ok.mod,ok.kind,ok.glob,ok.blt,ok.above,ok.inj,ok.has,ok.cab,ok.hd,ok.frames,ok.stk,ok.exf,ok.bs,ok.bsz,ok.noex,ok.exfs,ok.funs,ok.frf⟩
theorem Cx.Ok.unwish {X:Cx}(ok:(X.wish E).Ok):X.Ok:=
 ⟨ok.mod,ok.kind,ok.glob,ok.blt,ok.above,ok.inj,ok.has,ok.cab,ok.hd,ok.frames,ok.stk,ok.exf,ok.bs,ok.bsz,ok.noex,ok.exfs,ok.funs,ok.frf⟩
section
variable {X:Cx}{H:Hp}
theorem Inv.wish(I:Inv X aa σ H s)(E:Sb->Sc->Prop):Inv (X.wish E) aa σ H s:=⟨I.ok.wish E,I.os,I.bare,I.base,I.loc,I.cell,I.free,I.freeC,I.pin,I.hok,I.len⟩
theorem Inv.unwish(I:Inv (X.wish E) aa σ H s):Inv X aa σ H s:=⟨I.ok.unwish,I.os,I.bare,I.base,I.loc,I.cell,I.free,I.freeC,I.pin,I.hok,I.len⟩
theorem SP.unwish {D:ue}(h:SP (X.wish E) aa D f s'):SP X aa D f s':=by
 cases f with
 |next=>obtain⟨a,b,I,q⟩:=h;exact⟨a,b,I.unwish,q⟩
 |brk=>obtain⟨a,b,I,q⟩:=h;exact⟨a,b,I.unwish,q⟩
 |cont=>obtain⟨a,b,I,q⟩:=h;exact⟨a,b,I.unwish,q⟩
 |ret u=>obtain⟨v,a,b,I,r,q⟩:=h;exact⟨v,a,b,I.unwish,r,q⟩
theorem PSs.nox {st:List Stmt}(h:PSs X.nox st t):PSs X st t:=λa s σ H D I hw=>
 Tl (h a s σ H D (I.wish _) hw) (λ_ _ q=>q.unwish) λ_ _ z=>False.elim z
end
section
variable {X:Cx}{st:Stmt}{t u:TS}{pos:Pos}
def OM:TS:=λD σ H=>D.nx σ H
def Qy(t u:TS):TS:=λD σ H=>t {D with nx:=u D} σ H
theorem Iz:PSs X [] OM:=λ_ _ σ H _ I h=>XH ⟨σ,H,I,h⟩
theorem Ev(c:PS X st t)(i:PSs X rest u):PSs X (st::rest) (Qy t u):=by
 intro b s σ H D I h;refine jbe (bC (c b s σ H {D with nx:=u D} I h) λf g q=>?_);cases f with
 |next=>
  obtain⟨a,d,e,q⟩:=q;exact i b g a d D e q
 |ret v=>exact q
 |brk=>exact q
 |cont=>exact q
theorem Ix(b:PS X st t):PSs X [st] t:=by
 intro a s σ H D I h;refine jbe (bC (b a s σ H D I h) λf c q=>?_);cases f with
 |next=>exact XH q
 |ret v=>exact q
 |brk=>exact q
 |cont=>exact q
theorem Inv.quiet{H:Hp}(I:Inv X aa σ H s):interactive X.env=false:=by simp[interactive,I.ok.kind]
def O7(a:TE):TS:=λD σ H=>a σ H λ_ b=>D.nx σ b
theorem BK(d:PE X e te)(f:UD e ξ pos.line X.env=pure false:=by rfl):PS X (.Expr e pos) (O7 te):=by
 intro a s σ H D I h;exact wpAny_Expr_any (bC (d a s σ H _ I h) λv i ⟨x,g,b,j,c⟩=>⟨σ,g,b,c⟩) I.quiet f
def QN(a:TE):TS:=λD σ H=>a σ H D.rt
theorem Fo(f:PE X e te):PS X (.Return (p5 e) pos) (QN te):=by
 intro a s σ H D I h;exact wpAny_Return_some (bC (f a s σ H _ I h) λv i ⟨x,g,b,d,c⟩=>⟨x,σ,g,b,d,c⟩)
def Rg(c:TT)(t u:TS):TS:=λD σ H=>c σ H λb a=>if b=ζ then t D σ a else u D σ a
theorem PK(l:PT X c tc)(n:PSs X a t)(m:PSs X b u):PS X (.If c a b pos) (Rg tc t u):=by
 intro e s σ H D I h;refine wpAny_If (bC (l e s σ H _ I h) λd i f=>?_);obtain⟨k,g,j⟩:=f;cases d with
 |true=>exact n e i σ k D g j
 |false=>exact m e i σ k D g j
end
abbrev TG:=V->St->Hp->(St->Hp->Prop)->Prop
abbrev GZ:=List V->St->Hp->(St->Hp->Prop)->Prop
def PG(X:Cx)(a:Expr)(t:TG):Prop:=
 ∀(c:List (Addr×Obj)) (s:Sc) (σ:St) (H:Hp) (v:V) (u:Sb) (Q:St->Hp->Prop),Inv X c σ H s->bS v u->t v σ H Q->
  Sy (model X.prog X.w) X.A (VS a X.env u) (λ_ s'=> ∃b d,Inv X c b d s'/\Q b d) X.xe s
def PGs(X:Cx)(d:List Expr)(t:GZ):Prop:=
 ∀(b:List (Addr×Obj)) (s:Sc) (σ:St) (H:Hp) (vs:List V) (us:List Sb) (Q:St->Hp->Prop),Inv X b σ H s->cb vs us->t vs σ H Q->
  Sy (model X.prog X.w) X.A (Z0 ((UB d X.env).map (·.2)) us) (λ_ s'=> ∃a c,Inv X b a c s'/\Q a c) X.xe s
abbrev M8:=V->V->V->Hp->(Hp->Prop)->Prop
def Pn(X:Cx)(t:M8):Prop:=
 ∀(a:List (Addr×Obj)) (s:Sc) (σ:St) (H:Hp) (o i v:V) (ov c u:Sb) (Q:Hp->Prop),Inv X a σ H s->bS o ov->bS i c->bS v u->t o i v H Q->
  Sy (model X.prog X.w) X.A (setItem ov c u) (λ_ s'=> ∃b,Inv X a σ b s'/\Q b) X.xe s
section
variable {X:Cx}{pos:Pos}
def AQ(i:Nat):TG:=λv σ H Q=>Q (σ.set i (p5 v)) H
theorem KY {i:Nat}(b:X.N.Nodup)(e:X.N[i]? =p5 x)(d:Ed X.env.scope x)(c:X.fn x=ζ\/X.env.scope.names.lookup x=p5 .local:=by first|exact .inl rfl|exact .inr rfl|assumption):PG X (.Name x pos) (AQ i):=by
 intro f s σ H v u Q I r h;exact Ym (my I b e d r (λs' a=>⟨_,H,a,h⟩) c)
def QE:GZ:=λvs σ H Q=>vs=[]/\Q σ H
def OW(t:TG)(u:GZ):GZ:=λvs σ H Q=> ∃v r,vs=v::r/\t v σ H λa b=>u r a b Q
theorem BV:PGs X [] QE:=by
 intro a s σ H vs us Q I r h;obtain⟨e,h⟩:=h;subst e;cases r;exact jay ⟨σ,H,I,h⟩
theorem yJ(d:PG X e t)(j:PGs X es u)
 (g:(UB (e::es) X.env).map (·.2)=VS e X.env::(UB es X.env).map (·.2):=by rfl):PGs X (e::es) (OW t u):=by
 intro c s σ H vs us Q I r h;obtain⟨v,o,k,h⟩:=h;subst k;cases r with
 |cons r m=>
  rw[g];refine Ya (bC (d c s σ H _ _ _ I r h) λ_ f b=>?_);obtain⟨a,l,i,n⟩:=b;exact j c f a l _ _ Q i m n
def Q4(K:Sf)(n:Nat)(t:GZ):TG:=λv σ H Q=> ∃a xs,v=.ref a/\SqT K H a xs/\xs.length=n/\t xs σ H Q
theorem G9(l:X.calm=ζ)(h:PGs X es t)
 (x:(UB es X.env).length=n:=by rfl) (c:(UB es X.env).findIdx? (·.1)=none:=by rfl):PG X (.Tuple es k pos) (Q4 X.K n t):=by
 intro d s σ H v u Q I r hw;obtain⟨a,xs,p,w,j,hw⟩:=hw;subst p;cases r;obtain⟨q,i,f,hz⟩:=I.tuple w;refine assign_Tuple_tuple (I.ok.hd l) f (by simp[x,<-j,i.length]) c λh' m=>?_
 have g:Inv X d σ H {s with heap:=h'}:=I.kept (t':=s.toks) λb o e=>m b o (SW (Sw e)) e
 exact h d _ σ H xs _ Q g (by omega) hw
def Q7(to a:TE)(t:M8):TG:=λv σ H Q=>to σ H λo d=>a σ d λi c=>t o i v c λb=>Q σ b
theorem LI(D:PE X o to)(n:PE X i ti)(f:Pn X t)
 (g: ∀v,VS (.Subscript o i pos) X.env v=(do
   let ov <-Wi [v] (eval o X.env)
   let b <-Wi [v,ov] (eval i X.env)
   Yn pos
   Wi [v,ov,b] (setItem ov b v)
   release [v,ov,b] []):=by intro _;rfl):PG X (.Subscript o i pos) (Q7 to ti t):=by
 intro c s σ H v u Q I r h;rw[g];refine R8 (Tr (bC (D c s σ H _ I h) λov e a=>?_));obtain⟨x,z,j,q,A⟩:=a;refine R8 (Tr (bC (n c e σ z _ j A) λb C a=>?_));obtain⟨y,B,l,p,d⟩:=a;refine R8 (UW (R8 (Tr (bC (f c C σ B x y v ov b u _ l q p r d) λ_ E a=>?_))));obtain⟨k,w,m⟩:=a;exact wpAny_release ⟨σ,k,w,m⟩
def IB(a:TE)(g:TG):TS:=λD σ H=>a σ H λx b=>g x σ b D.nx
theorem F7(f:PE X e te)(m:PG X tg g)(i:Xw [tg] e pos.line X.env=pure false:=by rfl)(hw:Xx [tg] e X.env=pure none:=by rfl)
 (b:(UB [tg] X.env).map (·.2)=[VS tg X.env]:=by rfl):PS X (.Assign [tg] e pos) (IB te g):=by
 intro a s σ H D I h;refine wpAny_Assign_stores (bC (f a s σ H _ I h) λv c ⟨x,j,k,d,l⟩=>?_) i hw;rw[b];exact bC (m a c σ j x v _ k d l) λ_ n q=>q
theorem nU(a:X.N.Nodup)(o:X.N[i]? =p5 x)(n:Ed X.env.scope x)(c:PE X e te)(d:UD e (p5 (.Name x pos')) pos.line X.env=pure false:=by rfl)(g:X.fn x=ζ\/X.env.scope.names.lookup x=p5 .local:=by first|exact .inl rfl|exact .inr rfl|assumption):
 PS X (.Assign [.Name x pos'] e pos) (IB te (AQ i)):=by
 intro j s σ H D I h;refine wpAny_Assign_Name (bC (c j s σ H _ I h) λv p ⟨y,f,k,b,l⟩=>?_) d;exact my k a o n b (λq m=>⟨_,f,m,l⟩) g
def Qz(i j:Nat)(a:TA):TS:=λD σ H=>a σ H λvs b=> ∃v w,vs=[v,w]/\D.nx ((σ.set i (p5 v)).set j (p5 w)) b
theorem MP{a b:Expr}{kt k2 pt2}(P:X.calm=ζ)(r:X.N.Nodup)(Q:X.N[i]? =p5 x)(L:X.N[j]? =p5 y)(g:i≠j)
 (u:X.env.scope.names.lookup x=p5 .local) (z:X.env.scope.names.lookup y=p5 .local) (J:PA X [a,b] ta)
 (hw:Xx [.Tuple [.Name x px,.Name y py] kt pt] (.Tuple [a,b] k2 pt2) X.env=pure (p5 [x,y]))
 (G:Xw [.Tuple [.Name x px,.Name y py] kt pt] (.Tuple [a,b] k2 pt2) pos.line X.env=pure false:=by rfl):
 PS X (.Assign [.Tuple [.Name x px,.Name y py] kt pt] (.Tuple [a,b] k2 pt2) pos) (Qz i j ta):=by
 intro C s σ H D I h;rw[exec_Assign_arm];refine R8 (UW ?_);rw[G];refine R8 (Sa ?_);rw[if_neg ()];refine R8 (Tuple_ (bC (J _ C s σ H _ I h) λus c m=>?_));obtain⟨vs,B,K,S,n⟩:=m;obtain⟨v,w,R,n⟩:=n;subst R;obtain⟨d,f,rfl,M,l⟩: ∃d f,us=[d,f]/\bS v d/\bS w f:=by
  cases S with
  |cons p q=>
   cases q with
   |cons F U=>
    cases U;exact⟨_,_,rfl,p,F⟩
 refine TR ?_ (by show 2<=SC;decide)
 have O:Inv X C σ B {c with heap:=c.heap.push {cls:=.type "tuple",data:=.seq [d,f].toArray}}:=K.kept (t':=c.toks) λb o e=>Sd _ e
 rw[hw];refine R8 (Sa ?_);show Sy (model X.prog X.w) X.A (do rule "assign.swapped-stores";let items <-unpackItems (.ref c.heap.objs.size) 2 none;Z0 [λv=>jcr X.env y v,λv=>jcr X.env x v] items.reverse;pure Flow.next) _ _ _;refine R8 (Xo (R8 (unpackItems_tuple (items:= #[d,f]) (I.ok.hd P) (jdW c.heap _) λh' k=>?_)));have T:=O.kept (h':=h') (t':=c.toks) λb o e=>k b o (SW (Sw e)) e
 show Sy _ _ (Z0 [λv=>jcr X.env y v,λv=>jcr X.env x v] [f,d]>>=λ_=>pure Flow.next) _ _ _;refine R8 (Ya (wpAny_bindName (my T r L (.inl z) l (λW E=>?_) (.inr z))));refine Ya (wpAny_bindName (my E r Q (.inl u) M (λV t=>jay (Sa ?_)) (.inr u)));rw[List.set_comm _ _ (S9 g)] at t;exact⟨_,B,t,n⟩
end
section
variable {X:Cx}
def Mj(c:TT)(g:TS):TS:=λD σ H=> ∃W:Nat->St->Hp->Prop,(∃m,W m σ H)/\ ∀m σ H,W m σ H->
 c σ H λb f=>if b=ζ then∃N:St->Hp->Prop,(∀a d,N a d-> ∃e,e<m/\W e a d)/\g {D with nx:=N,ct:=N,bk:=D.nx} σ f else D.nx σ f
theorem Hv(p:jbf (model X.prog X.w) X.A X.env X.xe)(G:PT X c tc)(K:PSs X body tb):PS X (.While c body [] pos) (Mj tc tb):=by
 intro k s σ H D I h;obtain⟨W,⟨M,C⟩,turn⟩:=h;refine wpAny_While (codeAny_whileLoop (λn s'=> ∃e m,Inv X k e m s'/\W n e m) ?_ M ⟨σ,H,I,C⟩);rintro n y ⟨a,r,E,x⟩;refine Vp p (bC (G k y a r _ E (turn n a r x)) λb L l=>?_);obtain⟨u,o,g⟩:=l;cases b with
 |true=>
  obtain⟨N,z,g⟩:=g;rw[if_pos rfl];refine Vp p (bC (K k L a u _ o g) λf O i=>?_);cases f with
  |next=>
   obtain⟨d,j,q,t⟩:=i;grind
  |cont=>
   obtain⟨d,j,q,t⟩:=i;obtain⟨J,F,B⟩:=z d j t;exact⟨J,F,d,j,q,B⟩
  |brk=>exact i
  |ret v=>exact i
 |false=>
  rw[if_neg UU];exact XH ⟨a,u,o,g⟩
end
structure It where
 go:Nat->Hp->Prop
 yld:Nat->Hp->V->Hp->Prop
 stop:Nat->Hp->Prop
def iT(X:Cx)(a:List (Addr×Obj))(H:Hp)(b:Addr):Prop:=
 H b=ξ/\b≠X.env.locals/\b∉X.fs/\(b∈X.ex\/X.s₀.heap.objs.size<=b)/\(∀x c,X.env.cells.lookup x=p5 c->c≠b)/\ ∀p∈X.pn++a,p.1≠b
theorem Inv.fpOk{H d:Hp}{s:Sc}(I:Inv X aa σ H s)(a:s.heap.objs.size<=b)(f:d b=ξ):iT X aa d b:=by
 refine⟨f,Uc (SH I.lt a),I.nofs a,.inr (Tk I.sz a),λx c e z=>?_,λp g z=>?_⟩
 ·obtain⟨v,q⟩:=I.cell x c e;exact absurd (SH q.lt (by nofun)) (Tv _)
 ·exact absurd (SH (Sw (I.pin p g).1) (by nofun)) (Tv _)
structure rb(P:SS)(w:Tf)(K:Sf)(tg:Expr)(J:It)(fp:List Addr)(it:Addr)(tn:Nat->Heap->Prop):Prop where
 mem:it∈fp
 obj: ∀i h,tn i h-> ∀b∈fp,∃o,h.get? b=p5 o/\ ∀v,o.data≠ .cell v
 keep: ∀i h h',tn i h->(∀b∈fp,∀o,h.get? b=p5 o->h'.get? b=p5 o)->tn i h'
 item: ∀(X:Cx),X.prog=P->X.w=w->X.K=K->X.calm=ζ-> ∀(i:Nat) (aa:List (Addr×Obj)) (s:Sc) (σ:St) (H:Hp) (E:Sb->Sc->Prop),Inv X aa σ H s->(∀b∈fp,iT X aa H b)->tn i s.heap->J.go i H->
  Sy (model P w) X.A (VX (.ref it)) (λr s1=> ∃u,r=p5 u/\
   Sy (model P w) X.A (Vq tg (.ref it) u) (λ_ s2=> ∃x H',Inv X aa σ H' s2/\bS x u/\J.yld i H x H'/\tn (i+1) s2.heap/\ ∀b∈fp,H' b=ξ) E s1) E s
 done: ∀(X:Cx),X.prog=P->X.w=w->X.K=K->X.calm=ζ-> ∀(i:Nat) (aa:List (Addr×Obj)) (s:Sc) (σ:St) (H:Hp) (E:Sb->Sc->Prop),Inv X aa σ H s->(∀b∈fp,iT X aa H b)->tn i s.heap->J.stop i H->
  Sy (model P w) X.A (VX (.ref it)) (λr s1=>r=ξ/\Inv X aa σ H s1) E s
 self: ∀(A:Tb) (i:Nat) (s:Sc) (Q:Sb->Sc->Prop) (E:Sb->Sc->Prop),tn i s.heap->Q (.ref it) s->Sy (model P w) A (YA (.ref it)) Q E s
abbrev TI:=St->Hp->(It->Hp->Prop)->Prop
def Rv(X:Cx)(e:List (Addr×Obj))(σ:St)(g:Expr)(R:It->Hp->Prop)(c:Sb)(f:Sc):Prop:=
 ∃(it:Addr) (fp:List Addr) (d:Nat->Heap->Prop) (J:It) (a:Hp),c=.ref it/\Inv X e σ a f/\rb X.prog X.w X.K g J fp it d/\d 0 f.heap/\(∀b∈fp,iT X e a b)/\R J a
def PI(X:Cx)(c a:Expr)(e:TI):Prop:=
 ∀(b:List (Addr×Obj)) (s:Sc) (σ:St) (H:Hp) (R:It->Hp->Prop),Inv X b σ H s->e σ H R->
  Sy (model X.prog X.w) X.A (eval a X.env) (λv d=>Sy (model X.prog X.w) X.A (YA v) (Rv X b σ c R) X.xe d) X.xe s
theorem AO{s:Sc}{o:Obj}{n:String}(e:s.heap.get? it=p5 o)(d:o.cls=.type n)(b:o.data=.fields vs)
 (c:["enumerate","zip","dict_itemiterator","dict_reverseitemiterator","odict_iterator","itertools.zip_longest","itertools.pairwise"].contains n=θ) (a:Q Unit.unit s):Sy M A (Vq tg (.ref it) u) Q E s:=by
 unfold Vq;cases tg<;>first
  |exact Sa a
  |(cases u<;>first
     |exact Sa a
     |(refine R8 (jct e ?_)
       rw[d,b];show Sy M A (if(["enumerate","zip","dict_itemiterator","dict_reverseitemiterator","odict_iterator","itertools.zip_longest","itertools.pairwise"].contains n&&vs[0]? ==p5 (VY _))=ζ then _ else _) Q E s;rw[if_neg (by intro h;rw[c,jci] at h;nofun)]
       exact Sa a))
def Qv(K:Sf)(a:Addr):It:=
 ⟨λi H=> ∃xs x,SqL K H a xs/\xs[i]? =p5 x,λi H x b=>b=H/\ ∀xs,SqL K H a xs->xs[i]? =p5 x,λi H=> ∃xs,SqL K H a xs/\xs.length<=i⟩
def Q2(K:Sf)(a:Addr):It:=
 ⟨λi H=> ∃xs x,SqT K H a xs/\xs[i]? =p5 x,λi H x b=>b=H/\ ∀xs,SqT K H a xs->xs[i]? =p5 x,λi H=> ∃xs,SqT K H a xs/\xs.length<=i⟩
def Qb(b:Int)(n:Nat):It:=⟨λi _=>i<n,λi H x a=>a=H/\x=.int (b+i),λi _=>n<=i⟩
theorem Dv{K:Sf}(a it:Addr):rb P w K tg (Qv K a) [it] it (λi h=>h.IsListIter it a i) where
 mem:=by simp
 obj:=λi h st b f=>by
  have e:b=it:=by simpa using f
  subst e;obtain⟨o,e,c,d⟩:=st;exact⟨o,e,λv z=>by nofun⟩
 keep:=λi h h' st k=>st.at λo e=>k it (by simp) o e
 item:=by
  intro X n hw D G i J s σ H E I j st r;subst n hw D;obtain⟨xs,x,l,y⟩:=r;obtain⟨B,q,p,hz⟩:=I.list l;obtain⟨u,M,S⟩:=q.get y;obtain⟨m,t,R,F,A,C⟩:=j it (by simp);refine wpAny_pyNext_list_item st p.isList (x:=u) (by simpa using M) λh' g Q=>?_
  have N:Inv X J σ H {s with heap:=h'}:=I.turned (t':=s.toks) (λb o f e=>(Q.2 b f).trans e) m t F A C;obtain⟨o,e,c,d⟩:=id g;exact⟨u,rfl,AO (s:={s with heap:=h'}) e c d (by rfl) ⟨x,H,N,S,⟨rfl,λys O=>by rw[I.list_inj O l];exact y⟩,g,λb f=>(j b f).1⟩⟩
 done:=by
  intro X n hw D G i J s σ H E I j st r;subst n hw D;obtain⟨xs,l,y⟩:=r;obtain⟨B,q,p,hz⟩:=I.list l;obtain⟨m,t,R,F,A,C⟩:=j it (by simp);have T:=q.length;exact wpAny_pyNext_list_end (I.ok.hd G) st p.isList (by nofun) λh' L=>⟨rfl,I.turned (t':=s.toks) (λb o f e=>L b o f e) m t F A C⟩
 self:=λ_ _ _ _ _ st h=>wpAny_pyIter_listiter st h
theorem An{K:Sf}(a it:Addr):rb P w K tg (Q2 K a) [it] it (λi h=>h.IsTupleIter it a i) where
 mem:=by simp
 obj:=λi h st b g=>by
  have e:b=it:=by simpa using g
  subst e;obtain⟨o,e,c,d⟩:=st;grind
 keep:=λi h h' st k=>st.at λo e=>k it (by simp) o e
 item:=by
  intro X q hw B D i F s σ H E I l st t;subst q hw B;obtain⟨xs,x,m,y⟩:=t;obtain⟨f,r,p,hz⟩:=I.tuple m;obtain⟨u,J,Q⟩:=r.get y;obtain⟨n,v,O,C,z,A⟩:=l it (by simp);refine wpAny_pyNext_tuple_item st (show s.heap.IsTuple a f.toArray from p) (x:=u) (by simpa using J) λh' j N=>?_
  have L:Inv X F σ H {s with heap:=h'}:=I.turned (t':=s.toks) (λb o g e=>(N.2 b g).trans e) n v C z A;obtain⟨o,e,c,d⟩:=id j;exact⟨u,rfl,AO (s:={s with heap:=h'}) e c d (by rfl) ⟨x,H,L,Q,⟨rfl,λys M=>by rw[I.tuple_inj M m];exact y⟩,j,λb g=>(l b g).1⟩⟩
 done:=by
  intro X q hw B D i F s σ H E I l st t;subst q hw B;obtain⟨xs,m,y⟩:=t;obtain⟨f,r,p,hz⟩:=I.tuple m;obtain⟨n,v,O,C,z,A⟩:=l it (by simp);have R:=r.length;exact wpAny_pyNext_tuple_end (I.ok.hd D) st (show s.heap.IsTuple a f.toArray from p) (by simp;omega) λh' G=>⟨rfl,I.turned (t':=s.toks) (λb o g e=>G b o g e) n v C z A⟩
 self:=λ_ _ _ _ _ st h=>wpAny_pyIter_tupleiter st h
theorem zB{K:Sf}(it:Addr)(d:Int)(n:Nat):rb P w K tg (Qb d n) [it] it (λi h=>IsRangeIter h it (d+(i:Nat)*1) ((n:Int) - (i:Nat)) 1) where
 mem:=by simp
 obj:=λi h st b a=>by
  grind
 keep:=λi h h' st k=>k it (by simp) _ st
 item:=by
  intro X j hw u p i y s σ H E I f st l;subst j hw u;obtain⟨g,m,C,x,q,r⟩:=f it (by simp);have W:=Walks.range (prog:=X.prog) (w:=X.w) (I.ok.hd p) it d 1 n;refine W.item i s _ _ l st λv h' tk hv c B=>?_
  obtain⟨t,rfl⟩:=hv;have A:Inv X y σ H {s with heap:=h',toks:=tk}:=I.turned (λb o a e=>B b o (by simpa using a) e) g m x q r;refine⟨_,rfl,AO (s:={s with heap:=h',toks:=tk}) (n:="range_iterator") c rfl rfl (by rfl) ⟨.int (d+i),H,A,⟨t,?_⟩,⟨rfl,rfl⟩,c,λb a=>(f b a).1⟩⟩;simp
 done:=by
  intro X j hw u p i y s σ H E I f st l;subst j hw u;obtain⟨g,m,C,x,q,r⟩:=f it (by simp);exact wpAny_pyNext_range_end (I.ok.hd p) st (by have:n<=i:=l;lia) λh' z=>⟨rfl,I.turned (t':=s.toks) (λb o a e=>z b o a e) g m x q r⟩
 self:=λ_ _ _ _ _ st h=>wpAny_pyIter_rangeiter st h
section
variable {X:Cx}{tg:Expr}
def OU(K:Sf)(c:TE):TI:=λσ H R=>c σ H λx b=> ∃a,x=.ref a/\(∃xs,SqL K b a xs)/\R (Qv K a) b
def Rm(K:Sf)(c:TE):TI:=λσ H R=>c σ H λx b=> ∃a,x=.ref a/\(∃xs,SqT K b a xs)/\R (Q2 K a) b
theorem BB(g:PE X l tl):PI X tg l (OU X.K tl):=by
 intro n s σ H R I h;refine bC (g n s σ H _ I h) λv c f=>?_
 obtain⟨x,k,d,i,t⟩:=f;obtain⟨a,e,⟨xs,r⟩,q⟩:=t;subst e;cases i;obtain⟨j,u,p,hz⟩:=d.list r;refine Yo p.isList ?_
 refine⟨c.heap.objs.size,[c.heap.objs.size],_,_,k,rfl,d.kept (t':=c.toks) λb o e=>Sd _ e,Dv a _,⟨_,Sj _ rfl,rfl,rfl⟩,λb m=>?_,q⟩;have e:b=c.heap.objs.size:=by simpa using m
 subst e;exact d.fpOk (Sn _) (d.hok.fresh (Sn _))
theorem MC(i:PE X l tl):PI X tg l (Rm X.K tl):=by
 intro n s σ H R I h;refine bC (i n s σ H _ I h) λv c g=>?_
 obtain⟨x,k,d,j,t⟩:=g;obtain⟨a,e,⟨xs,r⟩,q⟩:=t;subst e;cases j;obtain⟨f,u,p,hz⟩:=d.tuple r;refine WS (show c.heap.IsTuple a f.toArray from p) ?_
 refine⟨c.heap.objs.size,[c.heap.objs.size],_,_,k,rfl,d.kept (t':=c.toks) λb o e=>Sd _ e,An a _,⟨_,Sj _ rfl,rfl,rfl⟩,λb m=>?_,q⟩;have e:b=c.heap.objs.size:=by simpa using m
 subst e;exact d.fpOk (Sn _) (d.hok.fresh (Sn _))
theorem Ew{s:Sc}{a c:Int}{tk:Nat}(I:Inv X aa σ H s)(f: -(2^62)<=a)(k:a<2^62)(l: -(2^62)<=c)(g:c<2^62)
 (q:R (Qb a (c-a).toNat) H):Sy (model X.prog X.w) X.A (YA (.ref s.heap.objs.size)) (Rv X aa σ tg R) E {s with heap:=s.heap.push {cls:=.type "range",data:=.fields #[.int a t,.int c u,.int 1 v]},toks:=tk}:=by
 refine wpAny_pyIter_range (IsRange.new ..) (small_one f k l g) ?_
 have d:Inv X aa σ H {s with heap:=s.heap.push {cls:=.type "range",data:=.fields #[.int a t,.int c u,.int 1 v]},toks:=tk}:=I.kept λb o e=>Sd _ e
 refine⟨(s.heap.push {cls:=.type "range",data:=.fields #[.int a t,.int c u,.int 1 v]}).objs.size,[(s.heap.push {cls:=.type "range",data:=.fields #[.int a t,.int c u,.int 1 v]}).objs.size],_,_,H,rfl,
  d.kept (t':=tk) λb o e=>Sd _ e,zB _ a (c-a).toNat,?_,λb h=>?_,q⟩
 ·have i:a+((0:Nat):Int)*1=a:=by simp
  have j:(((c-a).toNat:Nat):Int) - ((0:Nat):Int)=WV a c 1:=by grind[rangeSize_one]
  show IsRangeIter _ _ (a+((0:Nat):Int)*1) ((((c-a).toNat:Nat):Int) - ((0:Nat):Int)) 1;rw[i,j];exact Sj _ rfl
 ·have e:b=(s.heap.push {cls:=.type "range",data:=.fields #[.int a t,.int c u,.int 1 v]}).objs.size:=by simpa using h
  subst e;exact d.fpOk (Sn _) (d.hok.fresh (Sn _))
def N5(a:TA):TI:=λσ H R=>a σ H λvs b=> ∃j:Int,vs=[.int j]/\ -(2^62)<=j/\j<2^62/\R (Qb 0 j.toNat) b
theorem D7{p b:Pos}(o:Gl X "range")(n:X.mg "range"=ξ)(i:PA X [a] ta)(g:Sv [a] X.env=[(θ,eval a X.env)]:=by rfl):PI X tg (.Call (.Name "range" p) [a] [] b) (N5 ta):=by
 intro k s σ H R I h;refine Call_ (jy I o n boot_range (UF (bC (i b k s σ H _ I h) λus u ⟨vs,v,l,f,c⟩=>?_) g rfl));obtain⟨j,e,c,d,q⟩:=c;subst e;cases f with
 |cons r m=>
  cases m;obtain⟨t,rfl⟩:=r;exact call_range_1 (Ew l (by simp) (by simp) c d (by nofun))
def Q5(h:TI)(g:TG)(e:TS):TS:=λD σ H=>h σ H λJ j=> ∃W:Nat->Nat->St->Hp->Prop,(∃m,W 0 m σ j)/\ ∀i m σ H,W i m σ H->
 (J.stop i H/\D.nx σ H)\/(J.go i H/\ ∃N:St->Hp->Prop,(∀b a,N b a-> ∃d,d<m/\W (i+1) d b a)/\ ∀x a,J.yld i H x a->g x σ a λc f=>e {D with nx:=N,ct:=N,bk:=D.nx} c f)
def nR(fp:List Addr)(h:Heap):List (Addr×Obj):=fp.filterMap λb=>(h.get? b).map λo=>(b,o)
theorem eW{h:Heap}{b:Addr}(a:b∈fp)(e:h.get? b=p5 o):(b,o)∈nR fp h:=X7.mpr ⟨b,a,by rw[e];rfl⟩
theorem Di{h:Heap}{p:Addr×Obj}(a:p∈nR fp h):p.1∈fp/\h.get? p.1=p5 p.2:=by
 obtain⟨b,c,e⟩:=X7.mp a;cases q:h.get? b with
 |none=>nofun
 |some o=>
  rw[q] at e;have d:(b,o)=p:=XG e;subst d;exact⟨c,q⟩
theorem Inv.pinned{s:Sc}(I:Inv X aa σ H s)(f: ∀b∈fp,iT X aa H b)(g: ∀b∈fp,∃o,s.heap.get? b=p5 o/\ ∀v,o.data≠ .cell v):Inv X (aa++nR fp s.heap) σ H s:=
 I.pins_of λp c=>(SL.mp c).elim (λz=>I.pin p (Tj _ z)) λz=>by
  obtain⟨a,e⟩:=Di z;obtain⟨h,i,k,_⟩:=f p.1 a;obtain⟨o,j,d⟩:=g p.1 a;nofun
theorem Inv.unpinned {a b:List (Addr×Obj)}{H:Hp}(I:Inv X (a++b) σ H s):Inv X a σ H s:=I.pins_of λp c=>I.pin p (Tj _ (Tq _ c))
theorem MU {y:Expr}(G:jbf (model X.prog X.w) X.A X.env X.xe)(hc:X.calm=ζ)(hi:PI X tg y wi)(hg:PG X tg g)(l:PSs X body tb)
 (hs: ∀x,TH y X.env x=pure x:=by intro _;rfl):PS X (.For tg y body [] pos) (Q5 wi g tb):=by
 intro E s σ H D I h;refine wpAny_For (bC (hi E s σ H _ I h) λv s1 h1=>bC h1 λitv s2 h2=>?_) hs;obtain⟨it,fp,tn,J,H2,e,I2,T,U,f2,W,⟨m0,w0⟩,turn⟩:=h2;subst e;have t: ∀ {z:Hp},(∀b∈fp,z b=ξ)-> ∀b∈fp,iT X E z b:=λhn b l=>⟨hn b l,(f2 b l).2⟩
 refine codeAny_forLoop_any (λn s'=> ∃i q z,Inv X E q z s'/\tn i s'.heap/\(∀b∈fp,z b=ξ)/\W i n q z) ?_ m0 ⟨0,σ,H2,I2,U,λb l=>(f2 b l).1,w0⟩;rintro n Z ⟨i,p,P,I3,K,O,w3⟩;rcases turn i n p P w3 with⟨M,qn⟩|⟨go,N,hN,L⟩
 ·refine Vp G (bC (T.done X rfl rfl rfl hc i E Z p P X.xe I3 (t O) K M) λr s4 c=>?_);obtain⟨S,I4⟩:=c;subst S;exact XH ⟨p,P,I4,qn⟩
 ·refine Vp G (bC (T.item X rfl rfl rfl hc i E Z p P X.xe I3 (t O) K go) λr s4 c=>?_);obtain⟨u,S,h4⟩:=c;subst S;refine Vp G (bC h4 λ_ s5 c=>?_);obtain⟨x,H5,I5,r5,y5,C,Q⟩:=c;have Y:=I5.pinned (t Q) (T.obj _ _ C);refine Vp G (bC (hg _ s5 p H5 x u _ Y r5 (L x H5 y5)) λ_ s6 c=>?_);obtain⟨V,H6,I6,q6⟩:=c;refine Vp G (bC (l _ s6 V H6 _ I6 q6) λf R B=>?_);have ZD: ∀ {a:St} {j:Hp},Inv X (E++nR fp s5.heap) a j R->N a j-> ∃m,m<n/\ ∃i q z,Inv X E q z R/\tn i R.heap/\(∀b∈fp,z b=ξ)/\W i m q z:=λ{a j} k F=>by
   obtain⟨m',hm,w7⟩:=hN a j F;refine⟨m',hm,i+1,a,j,k.unpinned,T.keep _ _ _ C λb l o e=>(k.pin (b,o) (Tj _ (Tj _ (eW l e)))).1,λb l=>?_,w7⟩;obtain⟨o,e,d⟩:=T.obj _ _ C b l;exact(k.pin (b,o) (Tj _ (Tj _ (eW l e)))).2.1
  cases f with
  |next=>obtain⟨a,j,k,F⟩:=B;exact ZD k F
  |cont=>obtain⟨a,j,k,F⟩:=B;exact ZD k F
  |brk=>obtain⟨a,j,k,B⟩:=B;exact⟨a,j,k.unpinned,B⟩
  |ret v=>obtain⟨x7,a,j,k,r7,B⟩:=B;exact⟨x7,a,j,k.unpinned,r7,B⟩
end
abbrev R2:=V->V->Hp->VK->Prop
def kK(X:Cx)(f:Sb->Sb->Sem Sb)(r:R2):Prop:=
 ∀(a:List (Addr×Obj)) (s:Sc) (σ:St) (H:Hp) (x y:V) (v u:Sb) (Q:VK),Inv X a σ H s->bS x v->bS y u->r x y H Q->
  Sy (model X.prog X.w) X.A (f v u) (EP X a σ Q) X.xe s
def Rn(X:Cx)(f:Sb->Sem Sb)(r:V->Hp->VK->Prop):Prop:=
 ∀(a:List (Addr×Obj)) (s:Sc) (σ:St) (H:Hp) (x:V) (v:Sb) (Q:VK),Inv X a σ H s->bS x v->r x H Q->
  Sy (model X.prog X.w) X.A (f v) (EP X a σ Q) X.xe s
def dq(X:Cx)(f:Sb)(r:List V->Hp->VK->Prop):Prop:=
 ∀(a:List (Addr×Obj)) (s:Sc) (σ:St) (H:Hp) (xs:List V) (us:List Sb) (Q:VK),Inv X a σ H s->cb xs us->r xs H Q->
  Sy (model X.prog X.w) X.A (call f us) (EP X a σ Q) X.xe s
def Ra(X:Cx)(r:V->Hp->(Bool->Hp->Prop)->Prop):Prop:=
 ∀(a:List (Addr×Obj)) (s:Sc) (σ:St) (H:Hp) (x:V) (v:Sb) (Q:Bool->Hp->Prop),Inv X a σ H s->bS x v->r x H Q->
  Sy (model X.prog X.w) X.A (truthy v) (TP X a σ Q) X.xe s
def NG(r:R2)(c a:TE):TE:=λσ H Q=>c σ H λx d=>a σ d λy b=>r x y b Q
def R4(r:V->Hp->VK->Prop)(a:TE):TE:=λσ H Q=>a σ H λx b=>r x b Q
def rI(C:Int->Int->Prop)(g:Int->Int->V):R2:=λx y H Q=> ∃i j,x=.int i/\y=.int j/\C i j/\Q (g i j) H
def HX(g:Int->Int->V):R2:=λx y H Q=> ∃i j,x=.int i/\y=.int j/\Q (g i j) H
def rU(g:Int->V):V->Hp->VK->Prop:=λx H Q=> ∃i,x=.int i/\Q (g i) H
section
variable {X:Cx}
theorem Nm(o:PE X a ta)(n:PE X b tb){H:Hp}{R:V->V->Hp->Prop}(I:Inv X aa σ H s)
 (h:ta σ H λx j=>tb σ j λy d=>R x y d) {f:Sb->Sb->Sem Sb}
 (p: ∀v u i x y d,Inv X aa σ d i->bS x v->bS y u->R x y d->Sy (model X.prog X.w) X.A (f v u) Q X.xe i):
 Sy (model X.prog X.w) X.A (eval a X.env) (λv e=>Sy (model X.prog X.w) X.A (eval b X.env) (λu g=>Sy (model X.prog X.w) X.A (f v u) Q X.xe g) X.xe e) X.xe s:=by
 refine bC (o aa s σ H _ I h) λv l c=>?_
 obtain⟨x,j,q,m,r⟩:=c;refine bC (n aa l σ j _ q r) λu i c=>?_
 obtain⟨y,d,t,z,k⟩:=c;exact p v u i x y d t m z k
theorem AE(k:kK X (U9 op) r)(c:PE X a ta)(e:PE X b tb):PE X (.BinOp a op b pos) (NG r ta tb):=by
 intro f s σ H Q I h;exact wpAny_BinOp (Nm c e I h λv u j x y g d i l q=>k f j σ g x y v u Q d i l q)
theorem Pw(i:Rn X (unaryOp op) r)(j:PE X a ta):PE X (.UnaryOp op a pos) (R4 r ta):=by
 intro b s σ H Q I h;exact UnaryOp_ (bC (j b s σ H _ I h) λv d ⟨x,g,c,f,e⟩=>i b d σ g x v Q c f e)
theorem Qf{g:Int->Int->Int}
 (a: ∀(i j:Int) (t u:Tok) (s:Sc) (Q:Sb->Sc->Prop) (E:Sb->Sc->Prop),C i j->Q (.int (g i j) s.toks) {s with toks:=s.toks+1}->Sy (model X.prog X.w) X.A (f (.int i t) (.int j u)) Q E s):
 kK X f (rI C λi j=>.int (g i j)):=by
 intro e s σ H x y v u Q I c d h;obtain⟨i,j,rfl,rfl,b,q⟩:=h;obtain⟨t,rfl⟩:=c;obtain⟨t',rfl⟩:=d;exact a i j t t' s _ _ b ⟨.int (g i j),H,I.tok _,⟨_,rfl⟩,q⟩
theorem OZ{g:Int->Int->Int}
 (a: ∀(i j:Int) (t u:Tok) (s:Sc) (Q:Sb->Sc->Prop) (E:Sb->Sc->Prop),Q (.int (g i j) s.toks) {s with toks:=s.toks+1}->Sy (model X.prog X.w) X.A (f (.int i t) (.int j u)) Q E s):
 kK X f (HX λi j=>.int (g i j)):=by
 intro d s σ H x y v u Q I b c h;obtain⟨i,j,rfl,rfl,q⟩:=h;obtain⟨t,rfl⟩:=b;obtain⟨t',rfl⟩:=c;exact a i j t t' s _ _ ⟨.int (g i j),H,I.tok _,⟨_,rfl⟩,q⟩
theorem K2{g:Int->Int->Bool}
 (a: ∀(i j:Int) (t u:Tok) (s:Sc) (Q:Sb->Sc->Prop) (E:Sb->Sc->Prop),Q (.bool (g i j)) s->Sy (model X.prog X.w) X.A (f (.int i t) (.int j u)) Q E s):
 kK X f (HX λi j=>.bl (g i j)):=by
 intro d s σ H x y v u Q I b c h;obtain⟨i,j,rfl,rfl,q⟩:=h;obtain⟨t,rfl⟩:=b;obtain⟨t',rfl⟩:=c;exact a i j t t' s _ _ ⟨.bl (g i j),H,I,rfl,q⟩
def OL(i j:Int):Prop:=0<=j/\j<=1000000/\i.natAbs<2^64
theorem Gk:kK X (U9 .Add) (HX λi j=>.int (i+j)):=OZ λ_ _ _ _ _ _ _ q=>add_int q
theorem LQ:kK X (U9 .Sub) (HX λi j=>.int (i-j)):=OZ λ_ _ _ _ _ _ _ q=>sub_int q
theorem L0:kK X (U9 .Mod) (rI (λ_ j=>0<j) λi j=>.int (i % j)):=Qf λi j _ _ _ _ _ a q=>by
 have b:(0:Int)<j:=a;exact mod_int' ⋯ (by rw[Int.fmod_eq_emod_of_nonneg i ⋯];exact q)
theorem Nf:kK X (U9 .Pow) (rI OL λi j=>.int (i^j.toNat)):=Qf λ_ _ _ _ _ _ _ a q=>pow_int_small a.1 a.2.1 a.2.2 q
theorem RP{g:Int->Int}
 (a: ∀(i:Int) (t:Tok) (s:Sc) (Q:Sb->Sc->Prop) (E:Sb->Sc->Prop),Q (.int (g i) s.toks) {s with toks:=s.toks+1}->Sy (model X.prog X.w) X.A (f (.int i t)) Q E s):
 Rn X f (rU λi=>.int (g i)):=by
 intro c s σ H x v Q I b h;obtain⟨i,rfl,q⟩:=h;obtain⟨t,rfl⟩:=b;exact a i t s _ _ ⟨.int (g i),H,I.tok _,⟨_,rfl⟩,q⟩
theorem Ms:Rn X (unaryOp .USub) (rU λi=>.int (-i)):=RP λ_ _ _ _ _ q=>neg_int q
end
section
variable {X:Cx}{a b:Expr}
theorem iR:kK X (Ub .Lt) (HX λi j=>.bl (χ (i<j))):=K2 λ_ _ _ _ _ _ _ q=>jgl q
theorem K4:kK X (Ub .LtE) (HX λi j=>.bl (χ (i<=j))):=K2 λ_ _ _ _ _ _ _ q=>le_int q
theorem OO:kK X (Ub .Gt) (HX λi j=>.bl (χ (j<i))):=K2 λ_ _ _ _ _ _ _ q=>jgA q
theorem OX:kK X (Ub .GtE) (HX λi j=>.bl (χ (j<=i))):=K2 λ_ _ _ _ _ _ _ q=>ge_int q
theorem ba(b:Expr)(h:op≠ .In:=by decide)(d:op≠ .NotIn:=by decide):UG op b=false:=by
 have a:(op==CmpOp.In)=false:=by nofun
 have c:(op==CmpOp.NotIn)=false:=by nofun
 cases b<;>simp[UG,a,c]
theorem Kk(l:kK X (Ub op) r)(c:PE X a ta)(f:PE X b tb)(d:UG op b=θ):PE X (.Compare a [op] [b] pos) (NG r ta tb):=by
 intro g s σ H Q I h;exact wpAny_Compare1 (Nm c f I h λv u k x y i e j m q=>l g k σ i x y v u Q e j m q) d
def OS(t:TE):TT:=λσ H Q=>t σ H λx a=> ∃k,x=.bl k/\Q k a
theorem Je(F:kK X (Ub op) r)(j:PE X a ta)(B:PE X b tb)(n:UG op b=θ):PT X (.Compare a [op] [b] pos) (OS (NG r ta tb)):=by
 intro d s σ H Q I h;refine Zq (bC (j d s σ H _ I h) λv g ⟨x,A,l,t,C⟩=>bC (B d g σ A _ l C) λu E ⟨y,D,o,q,f⟩=>
  bC (F d E σ D x y v u _ o t q f) λc G ⟨z,m,w,i,k,e,p⟩=>?_) n
 subst e;cases i;exact Uu ⟨m,w,p⟩
def Nh(K:Sf)(x:V)(H:Hp)(k:Bool):Prop:=
 match x with
 | .non=>k=θ
 | .bl b=>k=b
 | .int i=>k=(i !=0)
 | .str y=>y.length<=SC/\k=((y.length:Int) !=0)
 | .byt y=>y.size<=SC/\k=((y.size:Int) !=0)
 | .ref p=>(∃xs,SqL K H p xs/\k= !xs.isEmpty)\/(∃xs,SqT K H p xs/\k= !xs.isEmpty)\/ ∃kvs,H p=p5 (.dK kvs)/\k= !kvs.isEmpty
 |_=>False
theorem Ag {κ:Type}{kvs:List (κ×V)}{vs:List (κ×Sb)}(r:KV kvs vs):(!vs.isEmpty)= !kvs.isEmpty:=by
 cases r<;>rfl
theorem pO {xs:List V}{a:List Sb}(r:cb xs a):(!a.toArray.isEmpty)= !xs.isEmpty:=by
 cases r<;>simp
theorem kG:(SC:Nat)<2^63:=by simp[TY]
theorem Mt:Ra X (λx H Q=> ∃k,Nh X.K x H k/\Q k H):=by
 intro z s σ H x v Q I d h;obtain⟨k,e,q⟩:=h;have u:=kG;have o:SC=16777216:=TY;cases x with
 |non=>
  cases d;have a:k=false:=e;subst a;exact truthy_none ⟨H,I,q⟩
 |bl b=>
  cases d;have a:k=b:=e;subst a;exact Uu ⟨H,I,q⟩
 |int i=>
  obtain⟨t,rfl⟩:=d;have a:k=(i !=0):=e;subst a;exact PySem.P.truthy_int ⟨H,I,q⟩
 |str y=>
  obtain⟨t,rfl⟩:=d;obtain⟨n,a⟩:y.length<=SC/\k=((y.length:Int) !=0):=e;subst a;exact PySem.P.truthy_str ⋯ ⟨H,I.tok _,q⟩
 |byt y=>
  obtain⟨t,rfl⟩:=d;obtain⟨n,a⟩:y.size<=SC/\k=((y.size:Int) !=0):=e;subst a;exact W.truthy_bytes ⋯ ⟨H,I.tok _,q⟩
 |ref p=>
  cases d;have a:(∃xs,SqL X.K H p xs/\k= !xs.isEmpty)\/(∃xs,SqT X.K H p xs/\k= !xs.isEmpty)\/ ∃kvs,H p=some (.dK kvs)/\k= !kvs.isEmpty:=e
  rcases a with⟨xs,f,a⟩|⟨xs,f,a⟩|⟨kvs,f,a⟩
  ·subst a;obtain⟨j,r,g,hz⟩:=I.list f;have c:=r.length;exact wpAny_truthy_list g.isList (by simp only[Yp];lia) ⟨H,I.tok _,by rw[pO r];exact q⟩
  ·subst a;obtain⟨j,r,g,hz⟩:=I.tuple f;have c:=r.length;exact truthy_tuple g (by grind) ⟨H,I.tok _,by rw[pO r];exact q⟩
  ·subst a;obtain⟨hz,l,vs,r,m⟩:kvs.length<=SC/\(p==UT)=false/\ ∃vs,KV kvs vs/\s.heap.DictOf (bW X.prog X.w) p vs:=I.hok p _ f
   have c:kvs.length=vs.length:=Vd r;exact wpAny_truthy_dict l m (by omega) ⟨H,I.tok _,by rw[Ag r];exact q⟩
 |_=>exact(show False from e).elim
theorem FX(f:PE X a ta)(j: ∀b,isTrue a X.env b=(do let v <-b;Yn a.pos;Wi [v] (truthy v))):
 PT X a (λσ H Q=>ta σ H λx c=> ∃k,Nh X.K x c k/\Q k c):=by
 intro d s σ H Q I h;exact isTrue_plain (bC (f d s σ H _ I h) λv e ⟨x,l,g,i,m⟩=>Mt d e σ l x v Q g i m) (j _)
theorem fE(r:cb [x] us): ∃u,us=[u]/\bS x u:=by
 cases r with
 |cons a b=>cases b;exact⟨_,rfl,a⟩
theorem Lg(r:cb [x,y] us): ∃u a,us=[u,a]/\bS x u/\bS y a:=by
 cases r with
 |cons b e=>
  cases e with
  |cons d c=>cases c;exact⟨_,_,rfl,b,d⟩
theorem FI:dq X (.builtin "abs") (λxs H Q=> ∃i,xs=[.int i]/\Q (.int (if i<0 then -i else i)) H):=by
 intro a s σ H xs us Q I r h;obtain⟨i,rfl,q⟩:=h;obtain⟨u,rfl,t,rfl⟩:=fE r;exact call_abs_int λu tk=>⟨.int (if i<0 then -i else i),H,I.tok _,⟨_,rfl⟩,q⟩
theorem CJ(b:X.calm=ζ):dq X (.builtin "min") (λxs H Q=> ∃i j,xs=[.int i,.int j]/\Q (.int (if j<i then j else i)) H):=by
 intro d s σ H xs us Q I r h;obtain⟨i,j,rfl,q⟩:=h;obtain⟨u,c,rfl,⟨t,rfl⟩,⟨t',rfl⟩⟩:=Lg r;refine min_two_ints (I.ok.hd b) λh' tk k=>⟨_,H,I.kept k,?_,q⟩
 by_cases a:j<i
 ·rw[if_pos a,if_pos a];exact⟨_,rfl⟩
 ·rw[if_neg a,if_neg a];exact⟨_,rfl⟩
theorem jP:dq X (.type "int") (λxs H Q=>(∃i,xs=[.int i]/\Q (.int i) H)\/ ∃k,xs=[.bl k]/\Q (.int (if k then 1 else 0)) H):=by
 intro b s σ H xs us Q I r h;rcases h with⟨i,rfl,q⟩|⟨k,rfl,q⟩
 ·obtain⟨u,rfl,t,rfl⟩:=fE r;exact call_int_int ⟨.int i,H,I,⟨_,rfl⟩,q⟩
 ·obtain⟨u,rfl,a⟩:=fE r;cases a;exact call_int_bool ⟨.int (if k then 1 else 0),H,I.tok _,⟨_,rfl⟩,q⟩
end
theorem oi.some_of {v:V}{o:Option Sb}(r:oi (p5 v) o): ∃u,o=p5 u/\bS v u:=by
 cases o with
 |none=>exact(show False from r).elim
 |some u=>exact⟨u,rfl,r⟩
structure er(k:Nat)(A:Tb):Prop where
 hd:A.handled=ξ
 dp:A.depth+3*k+5<recursionLimit
 un:A.units+16*k+200<S7
theorem er.mono(r:er k A)(h:j<=k):er j A:=⟨r.hd,by have:=r.dp;omega,by have:=r.un;grind⟩
theorem er.deeper{A:Tb}(r:er (k+1) A)(a:Env):er k (A.deeper a):=
 ⟨r.hd,by have:=r.dp;show A.depth+1+3*k+5<_;lia,by have:=r.un;show A.units+3+16*k+200<_;lia⟩
theorem er.depth{A:Tb}(r:er k A):A.depth<recursionLimit:=by have:=r.dp;lia
theorem er.units{A:Tb}(r:er k A):A.units+64<cLine:=by have:=r.un;lia
def OH:TA:=λ_ H Q=>Q [] H
def OC(b:TE)(d:TA):TA:=λσ H Q=>b σ H λx c=>d σ c λxs a=>Q (x::xs) a
section
variable {X:Cx}{t:TA}
theorem bX:PA X [] OH:=λ_ _ _ _ H Q I h=>Yq ⟨[],H,I,.nil,h⟩
theorem bn(i:PE X e te)(o:PA X es t)(g:Sv (e::es) X.env=(θ,eval e X.env)::Sv es X.env:=by rfl):PA X (e::es) (OC te t):=by
 intro a c s σ H Q I h;rw[g];show Sy _ _ (spliced ((false,eval e X.env)::Ue a (Sv es X.env))) _ _ s;refine VZ (bC (i c s σ H _ I h) λu f b=>?_);obtain⟨x,n,j,m,p⟩:=b;exact bC (o a c f σ n _ j p) λus r ⟨xs,q,k,l,d⟩=>⟨x::xs,q,k,.cons m l,d⟩
def QO(t:TA):TE:=λσ H Q=>t σ H λxs a=>xs.length<=SC/\ ∀p,a p=ξ->Q (.ref p) (aV a p (.tup xs))
def Qp(t:TA):TE:=λσ H Q=>t σ H λxs a=>xs.length<=SC/\ ∀p,a p=ξ->Q (.ref p) (aV a p (.lst xs))
theorem L9 {x1}(h:PA X es t):PE X (.Tuple es x1 pos) (QO t):=by
 intro g s σ H Q I i;refine wpAny_Tuple_spliced (bC (h pos g s σ H _ I i) λus a ⟨xs,d,c,r,z,q⟩=>⟨by rw[<-r.length];exact z,?_⟩);have f:d a.heap.objs.size=none:=c.hok.fresh (Sn _);refine⟨.ref a.heap.objs.size,aV d a.heap.objs.size (.tup xs),c.laid (t':=a.toks) (λb u e=>Sd _ e) (Sn _) ?_,rfl,q _ f⟩;exact⟨z,us,r,⟨_,Sj _ rfl,rfl,_,rfl⟩,_,Sj _ rfl,rfl⟩
theorem Hz(h:PA X es t):PE X (.List es pos) (Qp t):=by
 intro g s σ H Q I i;refine wpAny_List_spliced (bC (h pos g s σ H _ I i) λus a ⟨xs,d,c,r,z,q⟩=>⟨by rw[<-r.length];exact z,?_⟩);have f:d a.heap.objs.size=none:=c.hok.fresh (Sn _);refine⟨.ref a.heap.objs.size,aV d a.heap.objs.size (.lst xs),c.laid (t':=a.toks) (λb u e=>Sd _ e) (Sn _) ?_,rfl,q _ f⟩;exact⟨z,us,0,r,Sj _ rfl⟩
end
abbrev Sp:=List V->Hp->VK->XK->Prop
abbrev ES:=List Env->Hp->Sc->XK->Sb->Sc->Prop
structure vu(P:SS)(w:Tf)(K:Sf)(mg:Str->Option Sb)(base:Heap)(A:Tb)(outer:List Env)(s:Sc)(H:Hp):Prop where
 frames:A.frames=p5 outer
 mod:Mod K mg base
 bs: ∀b o,base.get? b=p5 o->s.heap.get? b=p5 o/\H b=ξ
 bsz:base.objs.size<=s.heap.objs.size
 funs:s.heap.FunFrames base outer
 frf: ∀b∈frs outer,H b=ξ
 hok:HOk P w H s.heap
 bare:Xv s.gens
def CE(a:List Env)(P:SS)(w:Tf)(H:Hp)(s:Sc)(Q:VK)(u:Sb)(s':Sc):Prop:=
 ∃v b,s'.os=s.os/\Xv s'.gens/\Un (frs a) [] H b s.heap s'.heap/\HOk P w b s'.heap/\bS v u/\Q v b
def CR(CX:ES)(a:List Env)(P:SS)(w:Tf)(H:Hp)(s:Sc)(Q:VK)(E:XK)(r:Y3)(s':Sc):Prop:=
 match r with
 | .ok (.ret u)=>CE a P w H s Q u s'
 | .ok _=>False
 | .error e=>CX a H s E e s'
structure ju(P:SS)(w:Tf)(K:Sf)(mg:Str->Option Sb)(base:Heap)(CX:ES)(k:Nat)(f:Addr)(fd:Vj)(ps:List Str)(sp:Sp):Prop where
 len: ∀vs H Q E,sp vs H Q E->vs.length=ps.length
 run: ∀(A:Tb) (outer:List Env) (s:Sc) (H:Hp) (args:Args) (us:List Sb) (vs:List V) (Q:VK) (E:XK),er k A->vu P w K mg base A outer s H->jaz s fd args (ps.zip us)->cb vs us->sp vs H Q E->
  Vo (model P w) A (.call (.ref f) args) (CR CX outer P w H s Q E) s
theorem ju.imp{K:Sf}{sp c:Sp}(F:ju P w K mg base CX k f fd ps sp)
 (h: ∀vs H Q E,c vs H Q E->sp vs H Q E):ju P w K mg base CX k f fd ps c:=
 ⟨λvs H Q E q=>F.len vs H Q E (h _ _ _ _ q),λA a s H b us vs Q E i d g hv e=>F.run A a s H b us vs Q E i d g hv (h _ _ _ _ e)⟩
section
variable {X:Cx}
theorem Inv.env0(I:Inv X aa σ H s):vu X.prog X.w X.K X.mg X.base X.A X.stack s H:=
 ⟨I.ok.frames,I.ok.mod,I.bs,Tk I.ok.bsz I.sz,I.stack,I.stkFree,I.hok,I.bare⟩
theorem Inv.after(I:Inv X aa σ H s)(h:CE X.stack X.prog X.w H s Q u s'):EP X aa σ Q u s':=by
 obtain⟨v,f,os,a,j,c,r,q⟩:=h;obtain⟨i,g,d,t,e⟩:=s';obtain rfl:e=s.os:=os;exact⟨v,f,I.call (h':=i) (g':=g) (d':=d) (t':=t) (ch:=[]) j c a (λb z=>absurd z (by simp)),r,q⟩
end
def On(sp:Sp)(a:List V)(E:XK)(t:TA):TE:=λσ H Q=>t σ H λvs b=>sp (vs++a) b Q E
def nT(K:Sf)(b:Vj)(a:List Str)(ds:List Sb):Prop:=
 ∀(s:Sc) (us:List Sb),K.In s.heap->(us++ds).length=a.length->jaz s b ⟨us,[]⟩ (a.zip (us++ds))
theorem nT.all {K:Sf}{a:List Str}(h: ∀us:List Sb,us.length=a.length->bindArgs fd ⟨us,[]⟩=pure (a.zip us)):nT K fd a []:=λs us _ b=>by
 rw[TZ] at b⊢;exact .of_eq (h us b)
def zP(CX:ES)(X:Cx)(E:XK):Prop:= ∀(a:List (Addr×Obj)) (σ:St) (H:Hp) (s:Sc) (e:Sb) (s':Sc),Inv X a σ H s->CX X.stack H s E e s'->X.xe e s'
section
variable {X:Cx}{sp:Sp}
theorem NE(F:ju X.prog X.w X.K X.mg X.base CX k f fd ps sp)(i:er k X.A)(d:nT X.K fd ps ds)(c:cb dvs ds)(l:zP CX X E)
 (I:Inv X aa σ H s) (r:cb vs us) (h:sp (vs++dvs) H Q E):Sy (model X.prog X.w) X.A (call (.ref f) us) (EP X aa σ Q) X.xe s:=by
 have b:cb (vs++dvs) (us++ds):=r.append c;have j:(us++ds).length=ps.length:=by rw[<-b.length];exact F.len _ _ _ _ h
 refine jcw (Vc (F.run X.A X.stack s H ⟨us,[]⟩ (us++ds) (vs++dvs) Q E i I.env0 (d s us I.kIn j) b h) λr s' a=>?_);cases r with
 |error e=>exact l aa σ H s e s' I a
 |ok g=>
  cases g with
  |ret u=>exact I.after a
  |next=>exact False.elim a
  |brk=>exact False.elim a
  |cont=>exact False.elim a
theorem vx(F:ju X.prog X.w X.K X.mg X.base CX k f fd ps sp)(v:er k X.A)(g:Gl X x)(i:X.mg x=p5 (.ref f))(o:Yb X.K (.ref f)=ζ)(n:nT X.K fd ps ds)(l:cb dvs ds)(j:zP CX X E)
 (d:PA X (e::es) t) (a:(x==("__debug__":Str))=false:=by decide) (m:Sv (e::es) X.env=(θ,eval e X.env)::Sv es X.env:=by rfl) (b:(Ue pos (Sv es X.env)).any (·.1)=false:=by rfl):
 PE X (.Call (.Name x p) (e::es) [] pos) (On sp dvs E t):=by
 intro u s σ H Q I h;refine WT (KS I g i ?_ a);refine W.callWith_K (h₀:=X.base) I.ok.mod.kin o (bC (d pos u s σ H _ I h) λus y ⟨vs,z,c,r,q⟩=>⟨c.kIn,?_⟩) m b;exact NE F v n l j c r q
end
structure bg(N P:List Str)(sc:U8):Prop where
 kind:sc.kind=.function
 co:sc.isCoroutine=θ
 gen:sc.isGenerator=θ
 nd:N.Nodup
 pre:N.take P.length=P
 par: ∀x∈P,sc.names.lookup x=p5 .local\/sc.names.lookup x=p5 .cell
 nofree: ∀y∈sc.names,y.2≠ .free
theorem t8 {b:Str->Option Va}: ∀ {a:List (Str×Sb)} {m:Str->Option Sb},(∀v,(x,v)∉a)->jcx b a m x=m x
 | [],_,_=>rfl
 |(n,v)::r,m,h=>by
  unfold jcx;rw[t8 λw hw=>h w (Sx _ hw)];split
  ·grind
  ·rfl
theorem uF {b:Str->Option Va}: ∀ {a:List (Str×Sb)} {m:Str->Option Sb},(∀v,(x,v)∉a)->jcy b a m x=m x
 | [],_,_=>rfl
 |(n,v)::r,m,h=>by
  unfold jcy;rw[uF λw hw=>h w (Sx _ hw)];split
  ·rfl
  grind
theorem tJ {a:Str->Option Va}: ∀ {P:List Str} {vs:List Sb} {i:Nat} {m:Str->Option Sb},P.Nodup->P[i]? =p5 x->vs[i]? =p5 v->a x=p5 .local->
 jcx a (P.zip vs) m x=p5 v
 | [],_,_,_,_,h,_,_=>by simp at h
 |_::_,[],_,_,_,_,h,_=>by simp at h
 |p::P,w::vs,0,m,d,b,c,e=>by
  simp at b c;subst b;subst c;show jcx a ((p,w)::P.zip vs) m p=_;unfold jcx;rw[t8 λv hv=>(TW.mp d).1 (Zk hv).1,if_pos e];simp
 |p::P,w::vs,i+1,m,d,b,c,e=>by
  show jcx a ((p,w)::P.zip vs) m x=_;unfold jcx;exact tJ (i:=i) (TW.mp d).2 (by simpa using b) (by simpa using c) e
theorem uD {a:Str->Option Va}: ∀ {P:List Str} {vs:List Sb} {i:Nat} {m:Str->Option Sb},P.Nodup->P[i]? =p5 x->vs[i]? =p5 v->a x≠p5 .local->
 jcy a (P.zip vs) m x=p5 v
 | [],_,_,_,_,h,_,_=>by simp at h
 |_::_,[],_,_,_,_,h,_=>by simp at h
 |p::P,w::vs,0,m,d,b,c,e=>by
  simp at b c;subst b;subst c;show jcy a ((p,w)::P.zip vs) m p=_;unfold jcy;rw[uF λv hv=>(TW.mp d).1 (Zk hv).1,if_neg e];simp
 |p::P,w::vs,i+1,m,d,b,c,e=>by
  show jcy a ((p,w)::P.zip vs) m x=_;unfold jcy;exact uD (i:=i) (TW.mp d).2 (by simpa using b) (by simpa using c) e
def start(N:List Str)(vs:List V):St:=vs.map p5++SA (N.length-vs.length) ξ
def ss(CX:ES)(P:SS)(w:Tf)(K:Sf)(mg:Str->Option Sb)(base:Heap)(N:List Str)(a:Str)(scope:U8)(f:Addr)(c:Sb)(A:Tb)(outer:List Env)(s:Sc)(H:Hp)(E:XK):Cx where
 prog:=P
 w:=w
 K:=K
 mg:=mg
 base:=base
 A:=A.deeper (XI a scope s.heap.objs.size f c)
 N:=N
 s₀:=s
 H₀:=H
 env:=XI a scope s.heap.objs.size f c
 outer:=outer
 stack:=XI a scope s.heap.objs.size f c::outer
 ex:=[]
 calm:=ζ
 fn:=λ_=>ζ
 pn:=[]
 xe:=λe s'=>Sy (model P w) (A.deeper (XI a scope s.heap.objs.size f c)) (leaving (XI a scope s.heap.objs.size f c) e) (λ_ b=>CX outer H s E e b) (λd b=>CX outer H s E d b) s'
theorem xz {a:U8}{n:Nat}(h:a.names.lookup x=p5 .cell): ∃c,(UK n a.names []).lookup x=p5 c:=by
 have q:=jbg a.names n [] (.inl h);exact Option.isSome_iff_exists.mp q
theorem Dk{K:Sf}{N g:List Str}{scope:U8}{A:Tb}{s B:Sc}{vs:List V}
 (S:bg N g scope) (I:A.handled=ξ) (a:vu P w K mg base A outer s H) (M:vs.length=g.length) (r:cb vs us)
 (x:InCallC s s.heap.objs.size (jcx (XI qual scope s.heap.objs.size f cd).kindOf (g.zip us) λ_=>ξ) (UK (s.heap.objs.size+1) scope.names []) (jcy (XI qual scope s.heap.objs.size f cd).kindOf (g.zip us) λ_=>ξ) B):
 Inv (ss CX P w K mg base N qual scope f cd A outer s H E) [] (start N vs) H B:=by
 have J:g.length<=N.length:=by have:=congrArg Uk S.pre;grind[YQ]
 obtain⟨o,tk,rfl,D⟩:=x.done;have d: ∀b:Addr,b∉(ss CX P w K mg base N qual scope f cd A outer s H E).ex:=λb z=>absurd (show b∈([]:List Addr) from z) (by simp)
 refine⟨⟨a.mod,S.kind,rfl,rfl,Sn _,λy z c o t=>?_,λy j=>?_,λy c _ h=>?_,λ_=>I,Around.frames_deeper a.frames,.inr ⟨rfl,rfl⟩,λb z=>absurd z (d b),a.bs,a.bsz,λb _ _=>d b,λb z=>absurd z (d b),a.funs,a.frf⟩,
  rfl,a.bare,Un.kept D,⟨_,x.toInCall.ns,λi y v o t L=>?_⟩,λy c h=>⟨_,x.cell y c h⟩,a.hok.fresh (Sn _),λy c h=>?_,λp l=>absurd (show p∈([]:List (Addr×Obj)) from l) (by simp),a.hok.kept D,?_⟩
 ·exact name_of_addr x.apart (TM o) (TM t)
 ·have j:scope.names.lookup y=p5 .cell\/scope.names.lookup y=p5 .free:=j;rcases j with j|j
  ·exact xz j
  ·exact absurd rfl (S.nofree _ (TM j))
 ·exact UV (x.above y c (TM h))
 ·have O:i<vs.length:=by
   grind[start]
  have F:vs[i]? =p5 v:=by
   unfold start at t;grind
  obtain⟨u,C,G⟩:=r.get F;have l:g[i]? =p5 y:=by
   rw[<-S.pre,YB (by nofun)];exact o
  have m:g.Nodup:=by rw[<-S.pre];exact S.nd.sublist (jar _ _)
  refine⟨u,G,?_⟩;rcases S.par y (S5 l) with k|k
  ·exact .inl ⟨k,tJ m l C k⟩
  ·obtain⟨c,e⟩:=xz (n:=s.heap.objs.size+1) k;refine .inr ⟨.inl k,c,e,?_⟩;have q:=x.cell y c e;rw[uD m l C (by show scope.names.lookup y≠_;rw[k];decide)] at q;exact q
 ·exact a.hok.fresh (UV (x.above y c (TM h)))
 ·unfold start;show _=N.length;rw[SG,Sm,Zr];nofun
theorem NT {CX:ES}{P:SS}{w:Tf}{K:Sf}{mg:Str->Option Sb}{base:Heap}{k:Nat}{f:Addr}{name qual:Str}{params:Arguments}{body:List Stmt}{scope:U8}{dV kV doc pm cdv ct oc:Sb}{an od:Option Addr}
 {osl:Array (Option Sb)} {N ps:List Str} {sp:Sp} (lk:K.lookup f=p5 ⟨oc,od,.func (Y4 name qual params body scope dV kV doc pm an cdv ct),osl⟩) (hcd:jaA K cdv qual=ζ) (S:bg N ps scope)
 (len: ∀vs H Q E,sp vs H Q E->vs.length=ps.length)
 (hbody: ∀(A:Tb) (outer:List Env) (s:Sc) (H:Hp) (vs:List V) (Q:VK) (E:XK),er k (A.deeper (XI qual scope s.heap.objs.size f cdv))->sp vs H Q E->
   ∃t,PSs (ss CX P w K mg base N qual scope f cdv A outer s H E) body t/\t {nx:=λ_ H'=>Q .non H',rt:=Q} (start N vs) H):
 ju P w K mg base CX (k+1) f (Y4 name qual params body scope dV kV doc pm an cdv ct) ps sp:=by
 refine⟨len,λA outer s H args us vs Q E hr e0 hb r hsp=>?_⟩;have hl:=len _ _ _ _ hsp;have KX:K.In s.heap:=e0.mod.kin.keeps λb o e=>(e0.bs b o e).1
 have lim:s.heap.NoLimit:=e0.mod.nolimit.keeps λb o e=>(e0.bs b o e).1
 have hkind: ∀y∈ps.zip us,scope.names.lookup y.1=p5 .local\/(scope.names.lookup y.1=p5 .cell/\((UK (s.heap.objs.size+1) scope.names []).lookup y.1).isSome=ζ):=λ⟨n,v⟩ hy=>by
  rcases S.par n (Zk hy).1 with q|q
  ·exact .inl q
  ·exact .inr ⟨q,jbg _ _ _ (.inl q)⟩
 refine codeAny_call_function hr.depth (KX _ _ lk) rfl S.co S.gen rfl (W.codeRec_of KX hcd) (hb _ _ _ _ ?_);refine wpAny_newFunctionEnv_cells S.kind hkind λenv he s1 x=>?_
 subst he;refine⟨lim.keeps x.toInCall.keep,codeAny_func ?_⟩;obtain⟨t,ht,hq⟩:=hbody A outer s H vs Q E (hr.deeper _) hsp;have I:Inv (ss CX P w K mg base N qual scope f cdv A outer s H E) [] (start N vs) H s1:=Dk S hr.hd e0 hl r x;refine Tl (ht [] s1 (start N vs) H _ I hq) (λfl s' hs=>?_) λe s' hs=>hs
 have fin: ∀ {σ':St} {H':Hp} {v:V} {u:Sb},Inv (ss CX P w K mg base N qual scope f cdv A outer s H E) [] σ' H' s'->bS v u->Q v H'->CE outer P w H s Q u s':=
  λ{σ' H' v u} J rv q=>⟨v,H',J.os,J.bare,J.base,J.hok,rv,q⟩
 cases fl with
 |ret u=>
  obtain⟨v,σ',H',J,rv,q⟩:=hs;exact fin J rv q
 |next=>
  obtain⟨σ',H',J,q⟩:=hs;exact fin (v:=V.non) (u:=Te) J rfl q
 |brk=>
  obtain⟨_,_,_,q⟩:=hs;nofun
 |cont=>
  obtain⟨_,_,_,q⟩:=hs;nofun
section
variable {X:Cx}{t:TA}{id:String}{r:List V->Hp->VK->Prop}
def Qg(r:List V->Hp->VK->Prop)(t:TA):TE:=λσ H Q=>t σ H λvs a=>r vs a Q
theorem jB(k:dq X (.builtin id) r)(i:Gl X x)(j:X.mg x=ξ)(hv:TN x=p5 (.builtin id))(f:PA X (e::es) t)(q:x≠"__name__":=by decide)(a:(x==("__debug__":Str))=false:=by decide)
 (m:Sv (e::es) X.env=(θ,eval e X.env)::Sv es X.env:=by rfl) (b:(Ue pos (Sv es X.env)).any (·.1)=false:=by rfl):PE X (.Call (.Name x p) (e::es) [] pos) (Qg r t):=by
 intro c s σ H Q I h;refine WT (jy I i j hv ?_ q a);exact jbh (bC (f pos c s σ H _ I h) λus d ⟨vs,n,g,l,o⟩=>k c d σ n vs us Q g l o) m b
theorem dY(k:dq X (.type T) r)(i:Gl X x)(j:X.mg x=ξ)(hv:TN x=p5 (.type T))(f:PA X (e::es) t)(q:x≠"__name__":=by decide)(a:(x==("__debug__":Str))=false:=by decide)
 (m:Sv (e::es) X.env=(θ,eval e X.env)::Sv es X.env:=by rfl) (b:(Ue pos (Sv es X.env)).any (·.1)=false:=by rfl):PE X (.Call (.Name x p) (e::es) [] pos) (Qg r t):=by
 intro c s σ H Q I h;refine WT (jy I i j hv ?_ q a);exact UF (bC (f pos c s σ H _ I h) λus d ⟨vs,n,g,l,o⟩=>k c d σ n vs us Q g l o) m b
theorem Ac(f:dq X (.type T) r)(d:Gl X x)(e:X.mg x=ξ)(hv:TN x=p5 (.type T))(c:x≠"__name__":=by decide)(a:(x==("__debug__":Str))=false:=by decide):
 PE X (.Call (.Name x p) [] [] pos) (Qg r OH):=by
 intro b s σ H Q I h;refine WT (jy I d e hv ?_ c a);exact jce (f b s σ H [] [] Q I .nil h)
end
end
end Lake
namespace HT
noncomputable section
open PySem PyProof.Rows
def lexLt:List Int->List Int->Bool
 | [],[]=>θ
 | [],_::_=>ζ
 |_::_,[]=>θ
 |x::xs,y::ys=>if x=y then lexLt xs ys else decide (x<y)
theorem lexLt_cons(x y:Int)(xs ys:List Int):lexLt (x::xs) (y::ys)=if x=y then lexLt xs ys else decide (x<y):=rfl
theorem j2:lexLt [] []=false:=rfl
theorem ji(y:Int)(ys:List Int):lexLt [] (y::ys)=true:=rfl
theorem jx(x:Int)(xs:List Int):lexLt (x::xs) []=false:=rfl
theorem x6(A:Tb)(s:Sc)(a:Int)(t:Tok)(c:Int)(u:Tok): ∃e,Vk A s (.int a t) (.int c u) e/\(e=ζ↔a=c):=
 ⟨(a==c),SeqAt.EqAt.int_int a t c u,by simp⟩
theorem Ej(A:Tb)(s:Sc)(a:Int)(t:Tok)(c:Int)(u:Tok)(prog:SS)(w:Tf)(E:Sb->Sc->Prop)(Q:Sb->Sc->Prop)(h:Q (.bool (χ (a<c))) s):
 Sy (model prog w) A (richCompare .Lt (.int a t) (.int c u)) Q E s:=
 (jgl h:Sy (model prog w) A (Ub .Lt (.int a t) (.int c u)) Q E s)
section
open PySem.SeqAt
open PySem.AutoSeq1 (wpAny_loadPart')
open PySem.MeetsSeq PySem.MeetsSeq2 PySem.MeetsSeq3
theorem sG(l b:Addr)(items f:Array Sb)(n M:Nat)(N F:Option Addr)(U D:Array (Option Sb))(ns z:List Int)(L:UO items.toList ns)(K:UO f.toList z):
 Meets (Ux.«tuple.__lt__» ⟨[.ref l,.ref b],[]⟩)
  (λ_ R s=>s.heap.get? l=p5 {cls:=.type "tuple",dict:=N,data:=.seq items n,slots:=U}/\s.heap.get? b=p5 {cls:=.type "tuple",dict:=F,data:=.seq f M,slots:=D}/\
    R (.ok (.ret (.bool (lexLt ns z)))) s):=
 .of_wp λprog w A R s h=>by
  obtain⟨B,g,d,tk,os⟩:=s;obtain⟨O,T,h⟩:=h;have W:=YC;have Z:items.size=ns.length:=by rw[<-L.length];rfl
  have X:f.size=z.length:=by rw[<-K.length];rfl
  wp_walk using T1 O,T1 T,VP _ (λp b s'=>b.1=ξ/\s'=⟨B,g,d,tk,os⟩/\ ∃(vs C:List Sb) (j k:List Int),p=vs.zip C/\
   UO vs j/\UO C k/\j.length+f.size=k.length+items.size/\R (.ok (.ret (.bool (lexLt j k)))) ⟨B,g,d,tk,os⟩) _
  case turn=>
   rintro⟨y,x⟩ p b s' ⟨r,rfl,vs,C,j,k,hz,v,m,i,hR⟩;cases v with
   |nil=>nofun
   |cons a t J=>
    cases m with
    |nil=>nofun
    |cons c u I=>
     rw[WQ] at hz;injection hz with H G
     injection H with Q P
     subst Q P;rw[lexLt_cons] at hR;simp only[SN] at i;obtain⟨e,S,o⟩:=x6 A.in1 ⟨B,g,d,tk,os⟩ a t c u;refine R8 (S prog w _ _ ?_);cases e with
     |true=>
      rw[if_pos (o.mp rfl)] at hR
      wp_walk
      grind
     |false=>
      rw[if_neg (λq=>absurd (o.mpr q) UU)] at hR;have E:=Ej A.in1 ⟨B,g,d,tk,os⟩ a t c u prog w
      wp_walk using E
      exact⟨_,rfl,by omega⟩
  case fin=>
   rintro⟨Y,V⟩ s' ⟨r,rfl,vs,C,j,k,hz,v,m,i,hR⟩;simp only at r;subst r;have hv:lexLt j k=decide (items.size<f.size):=by
    cases v with
    |nil=>
     cases m with
     |nil=>
      simp only[T3] at i;rw[j2];exact(zq (by nofun)).symm
     |cons c u hw=>
      simp only[T3,SN] at i;rw[ji];nofun
    |cons a t hv=>
     cases m with
     |nil=>
      simp only[T3,SN] at i;rw[jx];grind
     |cons c u hw=>
      nofun
   rw[hv] at hR
   wp_walk
   exact⟨_,rfl,by simpa [Xe] using hR⟩
  case h=>
   exact⟨rfl,rfl,items.toList,f.toList,ns,z,rfl,L,K,⋯,h⟩
end
section
variable {A:Tb}{s:Sc}
theorem lt_tupInts{items a:Array Sb}(v:jco s.heap l items)(t:jco s.heap b a)(y:UO items.toList ns)(u:UO a.toList ms)
 (r:A.units<S7) (h:Q (.bool (lexLt ns ms)) s):Sy (model prog w) A (Ub .Lt (.ref l) (.ref b)) Q E s:=by
 obtain⟨⟨cls,p,data,z⟩,o,m,n,j⟩:=id v;obtain⟨⟨k,g,i,f⟩,e,c,q,d⟩:=id t;simp only at m j c d;subst m j c d;exact Y5 (op:=.Lt) ⟨_,o,rfl⟩ ⟨_,e,rfl⟩ PySem.F.slot_tuple_lt PySem.F.entry_tuple_lt (PySem.F.args_tuple_lt_2 _ _) (sG l b items a n q p g z f ns ms y u)
  ⟨o,e,show Z9 (lexLt ns ms)≠ZE/\Q (.bool (lexLt ns ms)) s from⟨(λx=>nomatch x),h⟩⟩ r
theorem cat_tup{vs a:List Sb}(v:jco s.heap t vs.toArray)(u:jco s.heap b a.toArray)(hv:vs≠[])
 (r:a=[]->Q (.ref t) s) (x:a≠[]->Q (.ref s.heap.objs.size) {s with heap:=s.heap.push {cls:=.type "tuple",data:=.seq (vs++a).toArray}})
 (hsz:vs.length+a.length<=SC):Sy (model prog w) A (U9 .Add (.ref t) (.ref b)) Q E s:=by
 obtain⟨⟨cls,o,data,p⟩,i,q,n,k⟩:=id v;obtain⟨⟨l,g,j,d⟩,c,f,m,h⟩:=id u;simp only at q k f h;subst q k f h;have e:vs.toArray++a.toArray=(vs++a).toArray:=by simp
 by_cases hw:a=[]
 ·exact jaB ⟨_,i,rfl⟩ ⟨_,c,rfl⟩ jbi seq_tuple_add Y6 YR (YD _ _)
   (tuple_addW1 t b vs.toArray a.toArray n m o g p d (by simpa using hv) (by simp[hw])) ⟨i,c,r hw⟩
 ·refine jaB ⟨_,i,rfl⟩ ⟨_,c,rfl⟩ jbi seq_tuple_add Y6 YR (YD _ _)
   (tuple_addW2 t b vs.toArray a.toArray n m o g p d (by simpa using hv) (by simpa using hw) (by omega)) ⟨i,c,?_⟩
  rw[e];exact x hw
def sIx(n d:Nat):Option Int->Nat
 |none=>d
 |some v=>if v<0 then(v+(n:Int)).toNat else min v.toNat n
theorem sIx_none(n d:Nat):sIx n d ξ=d:=rfl
theorem sIx_nat(n d k:Nat):sIx n d (p5 (k:Int))=min k n:=by
 rfl
end
end
end HT
namespace Lake
noncomputable section
open PySem PySem.Spec PyProof.Rows
abbrev TO:=St->Hp->(Option Int->Hp->Prop)->Prop
def PO(X:Cx)(e:Option Expr)(t:TO):Prop:=
 ∀(a:List (Addr×Obj)) (s:Sc) (σ:St) (H:Hp) (Q:Option Int->Hp->Prop),Inv X a σ H s->t σ H Q->
  Sy (model X.prog X.w) X.A (evalPart e X.env) (λu s'=> ∃o b,Inv X a σ b s'/\IsPart u o/\Q o b) X.xe s
def Kt:TO:=λ_ H Q=>Q ξ H
def Ot(t:TE):TO:=λσ H Q=>t σ H λx a=> ∃i,x=.int i/\Q (p5 i) a
theorem gj {ns:List Int}: ∀ {us:List Sb},cb (ns.map V.int) us->UO us ns:=by
 induction ns with
 |nil=>intro us r;rw[jaC] at r;cases r;exact .nil
 |cons n ns a=>
  intro us r;rw[So] at r;cases r with
  |cons b c=>
   obtain⟨t,e⟩:=b;subst e;exact .cons n t (a c)
section
variable {X:Cx}{e:Expr}{lo:Option Expr}{th:TO}
theorem Jq:PO X ξ Kt:=by
 intro a s σ H Q I h;rw[evalPart_none];exact Sa ⟨none,H,I,.none,h⟩
theorem JY(h:PE X e te):PO X (p5 e) (Ot te):=by
 intro f s σ H Q I hw;rw[evalPart_some];refine bC (h f s σ H _ I hw) λu j a=>?_
 obtain⟨x,d,b,c,g⟩:=a;obtain⟨i,rfl,q⟩:=g;obtain⟨t,rfl⟩:=c;exact⟨p5 i,d,b,.int i t,q⟩
def RA(X:Cx)(r:V->Option Int->Option Int->Hp->VK->Prop):Prop:=
 ∀(a:List (Addr×Obj)) (s:Sc) (σ:St) (H:Hp) (x:V) (v vl e:Sb) (b c:Option Int) (d:Addr) (Q:VK),Inv X a σ H s->bS x v->s.heap.IsSliceOf d vl e .none->IsPart vl b->IsPart e c->r x b c H Q->
  ∃T id,typeLookup (.type T) "__getitem__"=pure (p5 (.builtin id))/\s.TypeIs v T/\Sy (model X.prog X.w) X.A (Y7 v (.ref d)) (EP X a σ Q) X.xe s
def R3(r:V->Option Int->Option Int->Hp->VK->Prop)(d:TE)(c th:TO):TE:=λσ H Q=>d σ H λx e=>c σ e λl b=>th σ b λu a=>r x l u a Q
theorem Go(G:RA X r)(E:PE X e te)(y:PO X lo tl)(m:PO X hi th):PE X (.Subscript e (.Slice lo hi ξ p2) pos) (R3 r te tl th):=by
 intro d s σ H Q I h;refine jcA (bC (E d s σ H _ I h) λv k c=>?_);obtain⟨x,F,o,C,K⟩:=c;refine wpAny_Slice (bC (y d k σ F _ o K) λvl M ⟨l,L,p,B,i⟩=>bC (m d M σ L _ p i) λf a c=>?_);obtain⟨u,g,D,pu,t⟩:=c;rw[evalPart_none];refine Sa ?_
 have j:Inv X d σ g {a with heap:=a.heap.push {cls:=.type "slice",data:=.fields #[vl,f,.none]}}:=D.kept (t':=a.toks) λb ob q=>Sd _ q
 obtain⟨T,id,J,n,z⟩:=G d {a with heap:=a.heap.push {cls:=.type "slice",data:=.fields #[vl,f,.none]}} σ g x v vl f l u a.heap.objs.size Q j C (jgS ..) B pu t;show Sy (model X.prog X.w) X.A (Z1 e (.Slice lo hi ξ p2) v (.ref a.heap.objs.size)) (EP X d σ Q) X.xe {a with heap:=a.heap.push {cls:=.type "slice",data:=.fields #[vl,f,.none]}};exact tail_any (ops:=[.ref a.heap.objs.size,v]) n J z (by rfl)
def CY(xs:List V)(a b:Option Int):List V:=(xs.drop (HT.sIx xs.length 0 a)).take (HT.sIx xs.length xs.length b-HT.sIx xs.length 0 a)
theorem xr(xs:List V)(a b:Option Int):(CY xs a b).length<=xs.length:=by
 unfold CY;grind
def O9(K:Sf):R2:=λx y H Q=> ∃a b ns c,x=.ref a/\y=.ref b/\SqT K H a (ns.map V.int)/\SqT K H b (c.map V.int)/\Q (.bl (HT.lexLt ns c)) H
theorem M7(f:X.A.units<S7):kK X (Ub .Lt) (O9 X.K):=by
 intro r s σ H x y v u Q I o p h;obtain⟨a,b,ns,e,rfl,rfl,g,n,q⟩:=h;cases o;cases p;obtain⟨d,m,j,_⟩:=I.tuple g;obtain⟨c,l,i,_⟩:=I.tuple n;have k:UO d.toArray.toList ns:=gj m;have i2:UO c.toArray.toList e:=gj l;exact HT.lt_tupInts j i k i2 f ⟨.bl (HT.lexLt ns e),H,I,rfl,q⟩
def Ov(K:Sf):R2:=λx y H Q=> ∃a b xs ys,x=.ref a/\y=.ref b/\SqT K H a xs/\SqT K H b ys/\xs≠[]/\xs.length+ys.length<=SC/\
 (ys=[]->Q (.ref a) H)/\(ys≠[]-> ∀p,H p=ξ->Q (.ref p) (aV H p (.tup (xs++ys))))
theorem cb.nil_iff(r:cb xs us):us=[]↔xs=[]:=by
 cases r with
 |nil=>simp
 |cons _ _=>simp
theorem Jc:kK X (U9 .Add) (Ov X.K):=by
 intro t s σ H x y v u Q I p r h;obtain⟨a,b,xs,ys,rfl,rfl,g,m,k,hz,n,f⟩:=h;cases p;cases r;obtain⟨l,d,j,_⟩:=I.tuple g;obtain⟨e,c,i,_⟩:=I.tuple m;refine HT.cat_tup j i (λz=>k (d.nil_iff.mp z)) (λz=>⟨.ref a,H,I,rfl,n (c.nil_iff.mp z)⟩) (λz=>?_) (by rw[<-d.length,<-c.length];exact hz);refine⟨.ref s.heap.objs.size,_,I.laid (t':=s.toks) (o:=.tup (xs++ys)) (λb ob q=>Sd _ q) (Sn _) ?_,rfl,f (λw=>z (c.nil_iff.mpr w)) _ (I.hok.fresh (Sn _))⟩;exact⟨by nofun,_,d.append c,jdW _ _,_,Sj _ rfl,rfl⟩
end
def vO(n:Nat)(i:Int):Option Nat:=if 0<=i then(if i<n then p5 i.toNat else ξ) else if -(n:Int)<=i then p5 (i+n).toNat else ξ
def pi {α:Type}(xs:List α)(i:Int):Option α:=(vO xs.length i).bind λj=>xs[j]?
theorem vy(h:vO n i=p5 j):seqIndex? i n=p5 j/\j<n/\ -(n:Int)<=i/\i<n:=by
 unfold vO at h
 by_cases b:0<=i
 ·rw[if_pos b] at h
  by_cases a:i<n
  ·rw[if_pos a] at h;have e:i.toNat=j:=XG h;exact⟨by rw[jbA b a,e],by grind,⋯,a⟩
  nofun
 ·rw[if_neg b] at h
  by_cases a: -(n:Int)<=i
  ·rw[if_pos a] at h;grind[jaD]
  nofun
theorem vg {α:Type}{xs:List α}{i:Int}{v:α}(h:pi xs i=p5 v): ∃j,seqIndex? i xs.length=p5 j/\xs[j]? =p5 v/\j<xs.length/\ -(xs.length:Int)<=i/\i<xs.length:=by
 unfold pi at h;cases e:vO xs.length i with
 |none=>nofun
 |some j=>
  rw[e] at h;obtain⟨a,d,b,c⟩:=vy e;exact⟨j,a,h,d,b,c⟩
theorem Kj {α:Type}{xs:List α}{j:Nat}{v:α}(h:xs[j]? =p5 v):pi xs (j:Int)=p5 v:=by
 have a:j<xs.length:=(Sz.mp h).1;have e:vO xs.length (j:Int)=p5 j:=by
  unfold vO;rw[if_pos (by simp),if_pos (by nofun)];simp
 unfold pi;rw[e];exact h
def BI(b:Expr):Prop:= ∀o i,ZF b θ o i=operate [o,i] (Y7 o i)
def IxR(X:Cx)(r:R2):Prop:=
 ∀(b a:Expr) (c:List (Addr×Obj)) (s:Sc) (σ:St) (H:Hp) (x y:V) (v u:Sb) (Q:VK),Inv X c σ H s->bS x v->bS y u->r x y H Q->
  ZF a θ v u=operate [v,u] (Y7 v u)->Sy (model X.prog X.w) X.A (Z1 b a v u) (EP X c σ Q) X.xe s
def Qi(X:Cx)(id:String)(r:V->List V->Hp->VK->Prop):Prop:=
 ∀(a:List (Addr×Obj)) (s:Sc) (σ:St) (H:Hp) (x:V) (xs:List V) (v:Sb) (us:List Sb) (Q:VK),Inv X a σ H s->bS x v->cb xs us->r x xs H Q->
  Sy (model X.prog X.w) X.A (call (.builtin id) (v::us)) (EP X a σ Q) X.xe s
section
variable {X:Cx}{a b:Expr}
theorem IxR.or(h:IxR X r)(h':IxR X r'):IxR X (λx y H Q=>r x y H Q\/r' x y H Q):=by
 intro b a d s σ H x y v u Q I e f q c;rcases q with q|q
 ·exact h b a d s σ H x y v u Q I e f q c
 ·exact h' b a d s σ H x y v u Q I e f q c
theorem OP(i:IxR X r)(d:PE X a ta)(f:PE X b tb)(c:BI b):PE X (.Subscript a b pos) (NG r ta tb):=by
 intro g s σ H Q I h;exact jcA (Nm d f I h λv u l x y j e k m q=>i a b g l σ j x y v u Q e k m q (c _ _))
def Ph(K:Sf):R2:=λx y H Q=> ∃p xs i v,x=.ref p/\y=.int i/\SqL K H p xs/\pi xs i=p5 v/\Q v H
def NU(K:Sf):R2:=λx y H Q=> ∃p xs i v,x=.ref p/\y=.int i/\SqT K H p xs/\pi xs i=p5 v/\Q v H
def N0:R2:=λx y H Q=> ∃z i c,x=.str z/\y=.int i/\z.length<=SC/\pi z.cps.toList i=p5 c/\Q (.str ⟨#[c]⟩) H
theorem vn:IxR X (Ph X.K):=by
 intro f b n s σ H x y v u Q I D F h m;obtain⟨p,xs,i,z,rfl,rfl,C,B,q⟩:=h;cases D;obtain⟨t,rfl⟩:=F;obtain⟨g,r,d,hz⟩:=I.list C;obtain⟨j,a,A,G,o,E⟩:=vg B;obtain⟨w,k,e⟩:=r.get A;have J:=r.length;have L:=kG;have fin:EP X n σ Q w s:=⟨z,H,I,e,q⟩
 by_cases l:0<=i
 ·have c:i.toNat=j:=by
   rw[jbA l E] at a;exact XG a
  exact item_listR d.isList l (by grind) (by rw[c];simpa using k) fin m
 ·have c:(i+(g.toArray.size:Int)).toNat=j:=by
   rw[jaD (by nofun) o] at a;nofun
  exact Y8 (x:=w) d.isList.typeIs jaE.lookup
   (wpAny_getItem_list_neg (Q:=λr s'=>r=w/\EP X n σ Q r s') d.isList (by nofun) (by nofun) ⋯ (by rw[c];simpa using k) ⟨rfl,fin⟩) m
theorem wh:IxR X (NU X.K):=by
 intro c a e s σ H x y v u Q I o A h g;obtain⟨p,xs,i,z,rfl,rfl,n,m,q⟩:=h;cases o;obtain⟨t,rfl⟩:=A;obtain⟨l,r,d,hz⟩:=I.tuple n;obtain⟨j,B,k,C,D,G⟩:=vg m;obtain⟨w,f,b⟩:=r.get k;have E:=r.length;have F:=kG;have fin:EP X e σ Q w s:=⟨z,H,I,b,q⟩
 exact Y8 (x:=w) d.typeIs slot_tuple_getitem.lookup
  (getItem_tuple (j:=j) (Q:=λr s'=>r=w/\EP X e σ Q r s') d ⋯ ⋯ (by nofun) (by simpa using f) ⟨rfl,fin⟩) g
theorem MR:IxR X N0:=by
 intro b a r s σ H x y v u Q I m o h e;obtain⟨z,i,c,rfl,rfl,hz,l,q⟩:=h;obtain⟨t,rfl⟩:=m;obtain⟨t',rfl⟩:=o;obtain⟨j,d,k,p,f,n⟩:=vg l;have g:z.cps.toList.length=z.length:=by rfl
 rw[g] at d f n;have w:=kG
 exact tail_any (typeIs_str s z t) slot_str_getitem.lookup (getItem_str (c:=c) (by
  lia) (by rw[d];simpa using k) ⟨.str ⟨#[c]⟩,H,I.tok _,⟨_,rfl⟩,q⟩) e
def RH(K:Sf):R2:=λx y H Q=>Ph K x y H Q\/NU K x y H Q\/N0 x y H Q
theorem aB:IxR X (RH X.K):=vn.or (wh.or MR)
theorem zd(a:List Sb)(n j:Nat)(u:Sb):Vl (·.setIfInBounds j u) {cls:=.type "list",data:=.seq a.toArray n}={cls:=.type "list",data:=.seq (a.set j u).toArray n}:=by
 simp[Vl]
theorem Inv.lst{H:Hp}{s:Sc}{xs:List V}(I:Inv X aa σ H s)(h:H p=p5 (.lst xs)):
 ∃(a:List Sb) (n:Nat),cb xs a/\s.heap.get? p=p5 {cls:=.type "list",data:=.seq a.toArray n}/\xs.length<=sizeLine:=by
 obtain⟨z,a,n,r,e⟩:=I.hok p _ h;exact⟨a,n,r,e,z⟩
theorem Inv.lstUpd{s:Sc}{xs ys:List V}{a its':List Sb}(I:Inv X aa σ H s)(h:H p=p5 (.lst xs))
 (g:s.heap.get? p=p5 {cls:=.type "list",data:=.seq a.toArray n}) (c:f {cls:=.type "list",data:=.seq a.toArray n}={cls:=.type "list",data:=.seq its'.toArray n'}) (r:cb ys its') (hz:ys.length<=SC) (t:Nat):
 Inv X aa σ (aV H p (.lst ys)) {s with heap:=s.heap.update p f,toks:=t}:=by
 have e:(s.heap.update p f).get? p=p5 {cls:=.type "list",data:=.seq its'.toArray n'}:=by
  rw[Ti f g (by rw[c]<;>rfl),c]
 refine I.write (x:=p) (e:=p) (by rw[h];trivial) (.inl rfl) (λb u d q=>(Um _ _ (S9 d)).trans q) ⟨_,e⟩ ?_
 exact⟨hz,its',n',r,e⟩
def N8:V->V->V->Hp->(Hp->Prop)->Prop:=λo i v H Q=> ∃p xs k j,o=.ref p/\i=.int k/\H p=p5 (.lst xs)/\vO xs.length k=p5 j/\Q (aV H p (.lst (xs.set j v)))
theorem HC:Pn X N8:=by
 intro x s σ H o i v ov A u Q I y f m h;obtain⟨p,xs,k,j,rfl,rfl,b,l,q⟩:=h;cases y;obtain⟨t,rfl⟩:=f;obtain⟨a,n,r,c,hz⟩:=I.lst b;obtain⟨d,D,g,B⟩:=vy l;have C:=r.length;have E:=kG;have e:Inv X x σ (aV H p (.lst (xs.set j v))) {s with heap:=s.heap.update p (Vl (·.setIfInBounds j u))}:=
  I.lstUpd b c (zd a n j u) (r.set m j) (by nofun) s.toks
 by_cases z:0<=k
 ·grind[jbA,W.ki_setAt]
 ·have w:(k+(a.toArray.size:Int)).toNat=j:=by
   rw[jaD (by nofun) g] at d;nofun
  exact W.ki_setBack c (by nofun) (by nofun) (by grind) (by rw[w];exact⟨_,e,q⟩)
theorem wf(b a:Option Int)(n:Nat):(jbB b a ξ n).1=((HT.sIx n 0 b:Nat):Int)/\(jbB b a ξ n).2.1=((HT.sIx n n a:Nat):Int)/\(jbB b a ξ n).2.2=1:=by
 have k: ∀i:Int,max 0 (min (if i<0 then i+n else i) (n:Int))=((if i<0 then(i+n).toNat else min i.toNat n:Nat):Int):=λi=>by split<;>omega
 refine⟨?_,?_,rfl⟩
 ·cases b with
  |none=>rfl
  |some i=>exact k i
 ·cases a with
  |none=>rfl
  |some i=>exact k i
theorem rV(a:List Sb)(b c:Option Int):slicePick a.toArray b c ξ=((a.drop (HT.sIx a.length 0 b)).take (HT.sIx a.length a.length c-HT.sIx a.length 0 b)).toArray:=by
 obtain⟨d,e,f⟩:=wf b c a.toArray.size;unfold slicePick;rw[d,e,f];simp only[sliceRange_one,pick_run,Yp]<;>rfl
def QJ(K:Sf):V->Option Int->Option Int->Hp->VK->Prop:=λx c b H Q=> ∃a xs,x=.ref a/\SqL K H a xs/\ ∀p,H p=ξ->Q (.ref p) (aV H p (.lst (CY xs c b)))
theorem Iv:RA X (QJ X.K):=by
 intro n s σ H x v vl m d e p Q I l g j pu h;obtain⟨a,xs,rfl,i,q⟩:=h;cases l;obtain⟨k,r,f,hz⟩:=I.list i;have c:=r.length;refine⟨"list",_,jaE.lookup,f.isList.typeIs,?_⟩;refine wpAny_getItem_list_slice f.isList g j pu .none (by simp) ?_ (by nofun)
 rw[rV,<-c];refine⟨.ref s.heap.objs.size,_,I.laid (t':=s.toks) (o:=.lst (CY xs d e)) (λb ob q=>Sd _ q) (Sn _) ?_,rfl,q _ (I.hok.fresh (Sn _))⟩;exact⟨Tk (xr xs d e) hz,_,0,(r.drop (HT.sIx xs.length 0 d)).take (HT.sIx xs.length xs.length e-HT.sIx xs.length 0 d),Sj _ rfl⟩
theorem aN:dq X (.builtin "len") (λxs H Q=> ∃p ys,xs=[.ref p]/\(SqL X.K H p ys\/SqT X.K H p ys)/\Q (.int ys.length) H):=by
 intro g s σ H xs us Q I r h;obtain⟨p,ys,rfl,a,q⟩:=h;obtain⟨u,rfl,f⟩:=fE r;cases f;have i:=kG;rcases a with a|a
 ·obtain⟨e,c,d,hz⟩:=I.list a;have b:=c.length;exact Calls.call_len_list d.isList (by grind) ⟨.int ys.length,H,I.tok _,⟨s.toks+1,by nofun⟩,q⟩
 ·obtain⟨e,c,d,hz⟩:=I.tuple a;have b:=c.length;exact len_tuple d (by simp only[Yp]<;>omega) ⟨.int ys.length,H,I.tok _,⟨s.toks+1,by nofun⟩,q⟩
theorem mO:dq X (.type "list") (λxs H Q=> ∃p ys,xs=[.ref p]/\(SqL X.K H p ys\/SqT X.K H p ys)/\ ∀l,H l=ξ->Q (.ref l) (aV H l (.lst ys))):=by
 intro v s σ H xs us Q I r h;obtain⟨p,ys,rfl,g,q⟩:=h;obtain⟨u,rfl,x⟩:=fE r;cases x;have fin: ∀(a:List Sb),cb ys a->ys.length<=SC-> ∀(h':Heap) (d:Nat),(∀b o',s.heap.get? b=some o'->h'.get? b=some o')->
  h'.get? s.heap.objs.size=p5 {cls:=.type "list",dict:=ξ,data:=.seq a.toArray d,slots:= #[]}->EP X v σ Q (.ref s.heap.objs.size) {s with heap:=h'}:=λa c hz h' d f e=>
  ⟨.ref s.heap.objs.size,_,I.laid (t':=s.toks) f (Sn _) (show b6 X.prog X.w _ h' _ (.lst ys) from⟨hz,a,d,c,e⟩),rfl,q _ (I.hok.fresh (Sn _))⟩
 rcases g with g|g
 ·obtain⟨a,c,k,hz⟩:=I.list g;have i:=c.length;obtain⟨o,t,j,n,m⟩:=k.isList;exact call_list_seq p (.inl rfl) t j m (λh' d f e=>fin a c hz h' d f e) (by nofun)
 ·obtain⟨a,c,k,hz⟩:=I.tuple g;have i:=c.length;obtain⟨o,t,j,n,m⟩:=k;exact call_list_seq p (.inr rfl) t j m (λh' d f e=>fin a c hz h' d f e) (by nofun)
theorem cO:dq X (.type "tuple") (λxs H Q=> ∃p ys,xs=[.ref p]/\((SqL X.K H p ys/\ ∀l,H l=ξ->Q (.ref l) (aV H l (.tup ys)))\/(SqT X.K H p ys/\Q (.ref p) H))):=by
 intro i s σ H xs us Q I r h;obtain⟨p,ys,rfl,h⟩:=h;obtain⟨u,rfl,n⟩:=fE r;cases n;rcases h with⟨f,q⟩|⟨f,q⟩
 ·obtain⟨a,c,d,hz⟩:=I.list f;have j:=c.length;refine call_tuple_list d.isList (λh' m=>?_) (by nofun);have g:Inv X i σ H {s with heap:=h'}:=I.kept (t':=s.toks) m;have k:Inv X i σ (aV H h'.objs.size (.tup ys)) {s with heap:=h'.push {cls:=.type "tuple",data:=.seq a.toArray}}:=
   g.laid (t':=s.toks) (λb o e=>Sd _ e) (Sn _) (show b6 X.prog X.w _ _ _ (.tup ys) from⟨hz,a,c,jdW _ _,_,Sj _ rfl,rfl⟩)
  exact⟨.ref h'.objs.size,_,k,rfl,q _ (g.hok.fresh (Sn _))⟩
 ·obtain⟨a,c,d,hz⟩:=I.tuple f;exact call_tuple_same d ⟨.ref p,H,I,rfl,q⟩
def Ri(K:Sf)(T:String)(x:V)(H:Hp):Prop:=match x with
 | .str _=>T="str"
 | .int _=>T="int"
 | .ref p=>(T="list"/\ ∃xs,SqL K H p xs)\/(T="tuple"/\ ∃xs,SqT K H p xs)\/
    (T="dict"/\((∃kvs,H p=p5 (.dK kvs))\/ ∃kvs,H p=p5 (.dT kvs)))\/(T="set"/\ ∃S n,H p=p5 (.set S n))\/(T="set"/\ ∃xs,H p=p5 (.tst xs))
 |_=>False
theorem FH{s:Sc}(I:Inv X aa σ H s)(r:bS x v)(ty:Ri X.K T x H):
 s.TypeIs v T/\ ∀a,v=.ref a-> ∃ob,s.heap.get? a=p5 ob/\ob.dict=none:=by
 cases x with
 |str z=>
  obtain⟨t,rfl⟩:=r;cases (show T="str" from ty);simp[typeIs_str]
 |int i=>
  obtain⟨t,rfl⟩:=r;cases (show T="int" from ty);simp[typeIs_int]
 |ref p=>
  cases r;rcases ty with⟨rfl,xs,h⟩|⟨rfl,xs,h⟩|⟨rfl,d⟩|⟨rfl,S,n,d⟩|⟨rfl,xs,d⟩
  ·obtain⟨q,_,j,_⟩:=I.list h;refine⟨j.isList.typeIs,λa e=>?_⟩;cases e;obtain⟨o,n,e,c,g,_⟩:=j;exact⟨o,e,g⟩
  ·obtain⟨⟨ob,u,l⟩,k,m,g⟩:=I.tupleN h;refine⟨⟨ob,u,l⟩,λa e=>?_⟩;cases e;exact⟨k,m,g⟩
  ·have z: ∃o,s.heap.get? p=p5 o/\o.ExactDict:=by
    rcases d with⟨kvs,d⟩|⟨kvs,d⟩
    ·obtain⟨_,_,_,_,o,_,_,e,b,_⟩:=I.hok p _ d;exact⟨o,e,b⟩
    ·obtain⟨_,_,_,_,o,_,_,e,b,_⟩:=I.hok p _ d;exact⟨o,e,b⟩
   obtain⟨o,e,b⟩:=z;refine⟨⟨o,e,b.1⟩,λa f=>?_⟩;cases f;exact⟨o,e,b.2.1⟩
  ·obtain⟨o,_,_,_,e,b,_⟩:=I.hok p _ d;refine⟨⟨o,e,b.1⟩,λa f=>?_⟩;cases f;exact⟨o,e,b.2.1⟩
  ·obtain⟨o,_,_,_,e,b⟩:=I.hok p _ d;refine⟨⟨o,e,b.ex.1⟩,λa f=>?_⟩;cases f;exact⟨o,e,b.ex.2.1⟩
 |_=>exact False.elim ty
def RU(K:Sf)(T:String)(r:V->List V->Hp->VK->Prop)(to:TE)(t:TA):TE:=λσ H Q=>to σ H λx a=>Ri K T x a/\t σ a λxs b=>r x xs b Q
variable {apos cpos:Pos}{id:String}
theorem yA(q:PlainAttrs T)(f:Slot T name id)(g:typeOf (.builtin id)=pure (.type "method_descriptor"))(D:Qi X id r)(J:PE X o to)(z:PA X (e::es) t)
 (b:Ve o name X.env (eval o X.env)=eval o X.env:=by rfl)
 (d:((Ue cpos (Sv (e::es) X.env)).all (λx=> !x.1)&&(XA cpos (VW [] X.env)).all (λx=>x.1.isSome)
   &&χ ((e::es).length+([]:List Vv).length+(if([]:List Vv).isEmpty then 0 else 1)<30))=true:=by rfl)
 (c:(apos.endLine==cpos.line)=true:=by rfl) (w:Sv (e::es) X.env=(θ,eval e X.env)::Sv es X.env:=by rfl) (a:(Ue cpos (Sv es X.env)).any (·.1)=false:=by rfl):
 PE X (.Call (.Attribute o name apos) (e::es) [] cpos) (RU X.K T r to t):=by
 intro i s σ H Q I h;refine Y9 b d c rfl (bC (J i s σ H _ I h) λv u j=>?_);obtain⟨x,y,m,k,ty,A⟩:=j;obtain⟨p,F⟩:=FH m k ty;refine⟨T,id,q,f,g,p,F,?_⟩;have l:=z cpos i u σ y _ m A;rw[w] at l⊢;refine V0 (by show(θ||(Ue cpos (Sv es X.env)).any (·.1))=θ;rw[a]<;>rfl) (Wo ?_);exact bC l λus E ⟨vs,B,C,G,n⟩=>D i E σ B x vs v us Q C k G n
end
def NR(X:Cx)(id:String)(r:V->List V->Hp->VK->Prop):Prop:=
 ∀(a:List (Addr×Obj)) (s:Sc) (σ:St) (H:Hp) (x:V) (xs:List V) (v:Sb) (us:List Sb) (Q:VK),Inv X a σ H s->bS x v->cb xs us->r x xs H Q->
  Sy (model X.prog X.w) X.A (call (.builtin id) (v::us)) (EP X a σ Q) X.xe s
theorem cb.one: ∀ {x:V} {us:List Sb},cb [x] us-> ∃u,us=[u]/\bS x u
 |_,_,.cons r .nil=>⟨_,rfl,r⟩
theorem cb.eraseIdx: ∀ {xs:List V} {us:List Sb} (i:Nat),cb xs us->cb (xs.eraseIdx i) (us.eraseIdx i)
 |_,_,_,.nil=>.nil
 |_,_,0,.cons _ t=>t
 |_,_,i+1,.cons r t=>.cons r (cb.eraseIdx i t)
theorem tE {α:Type}: ∀(l:List α) (i:Nat),(l.eraseIdx i).length<=l.length
 | [],_=>Sn _
 |_::_,0=>XB _
 |_::r,i+1=>Nat.succ_le_succ (tE r i)
section
variable {H:Hp}{s:Sc}{xs ys:List V}
theorem Inv.lset {a its':List Sb}{t':Nat}(I:Inv X aa σ H s)(d:H l=p5 (.lst xs))
 (e:s.heap.get? l=p5 {cls:=.type "list",data:=.seq a.toArray n}) (g:f a.toArray=its'.toArray) (hv:cb ys its') (hz:ys.length<=SC):
 Inv X aa σ (aV H l (.lst ys)) {s with heap:=s.heap.update l (Vl f),toks:=t'}:=by
 have q:=PySem.IsL.update e f;rw[g] at q;refine I.write (x:=l) (e:=l) (by rw[d];exact trivial) (.inl rfl) (λb' u b c=>(Um s.heap (Vl f) (S9 b)).trans c) ⟨_,q⟩ ?_
 exact⟨hz,its',_,hv,q⟩
theorem Inv.lnew {a:List Sb}{t':Nat}(I:Inv X aa σ H s)(hv:cb ys a)(hz:ys.length<=SC):
 Inv X aa σ (aV H s.heap.objs.size (.lst ys)) {s with heap:=s.heap.push {cls:=.type "list",data:=.seq a.toArray},toks:=t'}:=
 I.laid (λ_ _ q=>Sd _ q) (Sn _) ⟨hz,a,0,hv,Sj _ rfl⟩
theorem Inv.fresh(I:Inv X aa σ H s):H s.heap.objs.size=none:=I.hok.fresh (Sn _)
theorem Inv.lstM(I:Inv X aa σ H s)(b:H l=p5 (.lst xs)):xs.length<=SC/\ ∃(a:List Sb) (n:Nat),cb xs a/\xs.length=a.length/\s.heap.get? l=p5 {cls:=.type "list",data:=.seq a.toArray n}:=by
 obtain⟨z,a,n,r,e⟩:=I.hok l _ b;exact⟨z,a,n,r,r.length,e⟩
theorem Hg(h:n<=SC):WH n=false:=by
 grind[WH]
end
section
def BH:V->List V->Hp->VK->Prop:=λx vs H Q=> ∃l xs y,x=.ref l/\vs=[y]/\H l=p5 (.lst xs)/\xs.length<SC/\Q .non (aV H l (.lst (xs++[y])))
theorem eV:NR X "list.append" BH:=by
 intro i s σ H x vs v us Q I d c h;obtain⟨l,xs,y,rfl,rfl,b,hz,q⟩:=h;cases d;obtain⟨u,rfl,f⟩:=c.one;obtain⟨z,a,n,r,g,e⟩:=I.lstM b;refine jac UX ⟨_,e,rfl⟩ F.entry_list_append (F.args_list_append_2 _ _) (PySem.list_append l a.toArray n u (by nofun)) ⟨e,?_⟩;refine⟨.non,_,I.lset (its':=a++[u]) b e (by simp) (r.append (.cons f .nil)) ?_,rfl,q⟩;rw[SG,TX];grind
def KW:V->List V->Hp->VK->Prop:=λx vs H Q=> ∃l b xs zs,x=.ref l/\vs=[.ref b]/\H l=p5 (.lst xs)/\H b=p5 (.lst zs)/\xs.length+zs.length<=SC/\Q .non (aV H l (.lst (xs++zs)))
theorem Da:NR X "list.extend" KW:=by
 intro y s σ H x vs v us Q I o i h;obtain⟨l,b,xs,zs,rfl,rfl,f,j,hz,q⟩:=h;cases o;obtain⟨u,rfl,t⟩:=i.one;cases t;obtain⟨z,c,n,r,w,e⟩:=I.lstM f;obtain⟨A,a,g,k,p,m⟩:=I.lstM j;have hsz:c.toArray.size+a.toArray.size<=sizeLine:=by nofun
 have d: ¬(!c.toArray.isEmpty&&WH (c.toArray.size+a.toArray.size))=true:=by
  rw[Hg hsz,jcj];simp
 refine jac F.slot_list_extend ⟨_,e,rfl⟩ F.entry_list_extend (F.args_list_extend_2 _ _)
  (AutoSeq1.list_extend_list_list_0 l c.toArray n b a.toArray g d (by nofun) ⋯) ⟨e,m,?_⟩
 refine⟨.non,_,I.lset (its':=c++a) f e (by simp) (r.append k) ?_,rfl,q⟩;rw[SG];omega
def GI:V->List V->Hp->VK->Prop:=λx vs H Q=> ∃l xs i k y,x=.ref l/\vs=[.int i]/\H l=p5 (.lst xs)/\ -(2^63)<=i/\i<2^63/\seqIndex? i xs.length=p5 k/\xs[k]? =p5 y/\Q y (aV H l (.lst (xs.eraseIdx k)))
theorem FL:NR X "list.pop" GI:=by
 intro B s σ H x vs v us Q I m f h;obtain⟨l,xs,i,k,y,rfl,rfl,c,d,g,A,j,q⟩:=h;cases m;obtain⟨u,rfl,o⟩:=f.one;obtain⟨t,rfl⟩:=o;obtain⟨z,a,n,r,p,e⟩:=I.lstM c;obtain⟨w,hw,b⟩:=r.get j;refine jac F.slot_list_pop ⟨_,e,rfl⟩ F.entry_list_pop (F.args_list_pop_2 _ _)
  (MeetsSeq.list_pop_at l a.toArray n i t k w (fitsIndex_both d g) (by nofun) (by nofun) (by nofun)) ⟨e,?_⟩
 refine⟨y,_,I.lset (its':=a.eraseIdx k) c e ?_ (r.eraseIdx k) ?_,b,q⟩
 ·simp
 ·have:=tE xs k;grind
end
end
end Lake
namespace Att
noncomputable section
open PySem PySem.W PySem.Calls PyProof.Rows
theorem pc: ∀(ns:List Int) (vs:List Sb),WellAll P h vs (ns.map WData.int)->UO vs ns:=by
 intro ns
 induction ns with
 |nil=>
  intro vs w;rw[jaC] at w;cases w;exact .nil
 |cons n ns c=>
  intro vs w;rw[So] at w;cases w with
  |cons a b=>
   cases a;exact .cons _ _ (c _ b)
theorem D6 {l:jea}(s:l.most=p5 n){h:Heap}
 (b:l.row.toRowW.claim.pre args=ζ) (g:WellAll P h vals args):
 ∃a vs ns,vals=[SQ a]/\args=[WData.list (ns.map WData.int)]/\h.get? a=p5 {cls:=.type "list",data:=.seq vs.toArray}/\UO vs ns/\ns.length<=n:=by
 have i:WShape.hasAll [] args [.list .int]=true:=(pre_splitW b).1;have j:l.pre.holds [] {args:=args}=true:=(pre_splitW b).2;obtain⟨d,r,rfl,m,t⟩:=hasAllW_cons i;obtain rfl:=hasAllW_nil t;obtain⟨xs,rfl,p⟩:=hasW_list m;obtain⟨ns,rfl⟩:=items_int p;have e:ns.length<=n:=by
  unfold OpenLaw.pre at j;have f:(WTm.not (.lt (.lit (.int (n:Int))) (.len (.arg 0)))).holds [] {args:=[.list (ns.map .int)]}=true:=by
   have f:=(holds_andW j).1;rw[s] at f;exact f
  have u:=condW_of f (w_not (w_lt w_lit (w_len_list (w_arg rfl))));nofun
 cases g with
 |cons k q=>
  cases q;cases k with
  |list o c=>exact⟨_,_,ns,rfl,rfl,o,pc ns _ c,e⟩
theorem Dx(l:jea)(args:List WData):l.row.toRowW.claim.post args (.bool ζ) args=true:=
 postW_of (r:=l.row.toRowW) (X:=(ζ==ζ))
  (show WShape.has [] (.bool ζ) .bool=ζ by rfl)
  (show(WTm.eq .res (.lit (.bool ζ))).value [] {args:=args,res:=p5 (.bool ζ),after:=args}=p5 (.bool (ζ==ζ)) from w_eq_bool (w_res rfl) w_lit) rfl
theorem attach_call {l:jea}{d:DefRec}
 (I:l.most=p5 n) (x:d.params.defaults=[])
 (j: ∀(w:Tf) (c b:Sc) (s v:Str->Option Sb) (k:Addr) (o:Obj) (u p g:Sb) (a:Addr) (vs:List Sb) (ns:List Int),
   Ground q loose [] XP w c s v b.heap->YP w b.heap->
   b.heap.get? k=p5 o->o.data=.func (docDef d.name d.params d.body d.scope u p g)->b.heap.CodeRec p d.name->s d.name=p5 (.ref k)->
   b.heap.get? a=p5 {cls:=.type "list",data:=.seq vs.toArray}->UO vs ns->ns.length<=n->b.gens= #[]->
   Vo (model l.prog w) Za (.call (.ref k) ⟨[.ref a],[]⟩) (λr s'=>r=.ok (.ret (.bool ζ))/\OldK b.heap s'.heap/\s'.os=b.os/\Xv s'.gens) b):
 WalkO q loose XP YP l.row.toRowW d [] (λf vs=>jcB f vs):=by
 intro w c b s v G Y k o u p g P kV J Q t A y M B C as i D F z K;obtain rfl:P=.none:=Dflts.none A x;obtain rfl:kV=.none:=Dflts.noKw A;obtain⟨a,vs,ns,rfl,rfl,h,e,m⟩:=D6 I i z;refine enter_call (Vc (j w c b s v k o u p g a vs ns G Y J (fd_plain Q) t y h e m M) λr s' H=>?_);obtain⟨rfl,O,L,E⟩:=H;exact⟨.inl ⟨.bool ζ,.bool ζ,[],rfl,λ_=>rfl,.bool ζ,Dx l _,λ_=>⟨Wh,λ_ N=>(nomatch N)⟩⟩,O,L,E⟩
end
end Att
namespace Lake
noncomputable section
open PySem PySem.Spec PyProof.Rows
theorem sY: ∀ {vs:List Sb} {ns:List Int},UO vs ns->cb (ns.map V.int) vs
 |_,_,.nil=>.nil
 |_,_,.cons n t h=>.cons ⟨t,rfl⟩ (sY h)
def Nd(H:Hp):Prop:= ∀b,H b=ξ\/ ∃o xs,H b=p5 (.frz o (.lst xs))
theorem Gx{K:Sf}{sp:Sp}{c:Sc}{vs:List Sb}{ns:List Int}
 (O:K.In c.heap) (p:c.heap.Ns Ut mg) (l:c.heap.Ns jab mb) (J: ∀x:Str,x≠"__name__"->mb x=TN x) (B:c.heap.NoLimit) (Y:c.gens= #[])
 (D:c.heap.get? a=p5 {cls:=.type "list",data:=.seq vs.toArray}) (Q:UO vs ns) (hl:ns.length<=SC) (U:er k Za)
 (F: ∀base:Heap,K.In base->base.Ns Ut mg->ju P w K mg base CX k fa fd [x] sp) (j: ∀(s:Sc) (u:Sb),jaz s fd ⟨[u],[]⟩ [(x,u)])
 (I: ∀H:Hp,Nd H->SqL K H a (ns.map V.int)->sp [.ref a] H (λv _=>v=.bl ζ) λ_ _ _=>False)
 (E: ∀H e s',CX [] H c (λ_ _ _=>False) e s'->False):
 Vo (model P w) Za (.call (.ref fa) ⟨[.ref a],[]⟩) (λr s'=>r=.ok (.ret (.bool ζ))/\OldK c.heap s'.heap/\s'.os=c.os/\Xv s'.gens) c:=by
 have X:=sY Q;have L:=Q.length;have i: ∀H:Hp,Nd H->SqL K H a (ns.map V.int)->HOk P w H c.heap->(∀b,H b≠ξ->b=a)->(H a≠ξ->K.lookup a=ξ)->
  Vo (model P w) Za (.call (.ref fa) ⟨[.ref a],[]⟩) (λr s'=>r=.ok (.ret (.bool ζ))/\OldK c.heap s'.heap/\s'.os=c.os/\Xv s'.gens) c:=by
  intro H M R C hA hK;have f: ∀ {b:Addr} {o:Obj},c.heap.get? b=some o->H b=none->(vU c.heap H).get? b=some o:=λe n=>Gb e n
  have G: ∀ {b:Addr} {o:Obj} {es:Array jbj} {ep:Nat},c.heap.get? b=p5 o->o.data=.dict es ep->H b=none:=λ{b o es ep} e d=>by
   grind
  have g: ∀ {b:Addr} {m:Str->Option Sb},c.heap.Ns b m->(vU c.heap H).Ns b m:=λ{b m} ⟨o,es,ep,e,d,r⟩=>⟨o,es,ep,f e (G e d),d,r⟩
  have y:K.In (vU c.heap H):=λb o e=>f (O b o e) (by
   grind)
  have T:Mod K mg (vU c.heap H):=⟨y,g p,⟨mb,g l,J⟩,let⟨mc,h1,h2⟩:=B;⟨mc,g h1,h2⟩⟩
  have Z:vu P w K mg (vU c.heap H) Za [] c H:=⟨rfl,T,λb o e=>KZ e,Nat.le_of_eq (CB _ _),trivial,λb l=>absurd (show b∈([]:List Addr) from l) (by simp),C,.of_eq Y⟩
  refine Vc ((F _ y (g p)).run Za [] c H ⟨[.ref a],[]⟩ [.ref a] [.ref a] _ _ U Z (j c (.ref a)) (.cons rfl .nil) (I H M R)) λr s' h=>?_
  cases r with
  |error e=>exact(E H e s' h).elim
  |ok W=>
   cases W with
   |next=>exact False.elim h
   |brk=>exact False.elim h
   |cont=>exact False.elim h
   |ret u=>
    obtain⟨v,H',os,t,N,A,S,q⟩:=h;have q':v=.bl true:=q;subst q';obtain rfl:u=Z9 true:=S;refine⟨rfl,OldK.of_keep λb o e=>?_,os,t⟩;cases q:H b with
    |none=>exact N.keep b o e q (by intro z;exact absurd (show b∈([]:List Addr) from z) (by simp)) (by simp)
    |some u=>
     rcases M b with z|⟨ob,xs,z⟩
     ·lia
     ·have z2:=N.frzs b ob _ z;obtain⟨e1,_⟩:=C b _ z;obtain⟨e2,_⟩:=A b _ z2;nofun
 cases hk:K.lookup a with
 |some o=>
  have e:=O a o hk;rw[D] at e;cases e;refine i (λ_=>ξ) (λ_=>.inl rfl) (.inr ⟨_,vs.toArray,_,hk,rfl,rfl,rfl,by nofun,by omega⟩) (λb u z=>by nofun) (λb z=>absurd rfl z) λz=>absurd rfl z
 |none=>
  refine i (λb=>if b=a then p5 (.frz {cls:=.type "list",data:=.seq vs.toArray} (.lst (ns.map V.int))) else ξ) (λb=>?_) (.inl (.inr ⟨{cls:=.type "list",data:=.seq vs.toArray},if_pos rfl⟩)) (λb u z=>?_) (λb z=>?_) λ_=>hk
  ·grind
  ·by_cases l:b=a
   ·have z':=(if_pos l).symm.trans z;cases z';subst l;exact⟨D,by nofun,vs,_,X,D⟩
   nofun
  nofun
theorem walk_of {l:jea}{n k:Nat}{d:DefRec}{K:Params->Sf}{CX:Tf->ES}{sp:Tf->Sp}{x:Str}
 (P:l.most=p5 n) (t:n<=SC) (A:d.params.defaults=[]) (O:er k Za)
 (I: ∀(w:Tf) (h:Heap),YP w h->(K w.params).In h)
 (F: ∀(w:Tf) (j:Str->Option Sb) (r:Addr) (h:Heap),(K w.params).In h->h.Ns Ut j->j d.name=p5 (.ref r)->
   ∃z:Vj,(∀(s:Sc) (u:Sb),jaz s z ⟨[u],[]⟩ [(x,u)])/\
    ∀base:Heap,(K w.params).In base->base.Ns Ut j->ju l.prog w (K w.params) j base (CX w) k r z [x] (sp w))
 (C: ∀(w:Tf) (H:Hp) (a:Addr) (ns:List Int),ns.length<=n->Nd H->SqL (K w.params) H a (ns.map V.int)->sp w [.ref a] H (λv _=>v=.bl ζ) λ_ _ _=>False)
 (y: ∀(w:Tf) (H:Hp) (s:Sc) (e:Sb) (s':Sc),CX w [] H s (λ_ _ _=>False) e s'->False):
 W.WalkO q loose XP YP l.row.toRowW d [] (λf vs=>jcB f vs):=by
 refine Att.attach_call P A λw D p j Z r o X U R a vs ns G Y ho hd L B m i c Q=>?_
 have E:=I w _ Y;obtain⟨z,N,S⟩:=F w j r _ E G.T.g B;exact Gx E G.T.g G.T.b G.T.builtins G.T.nolimit Q m i (Tk c t) O S N (λH M J=>C w H a ns c M J) λH e s'=>y w H p e s'
def gF(s:Stmt):Arguments:=match s with
 | .FunctionDef _ a _ _ _ _ _ _ _ _=>a
 |_=>{posonlyargs:=[],args:=[],vararg:=ξ,kwonlyargs:=[],kw_defaults:=[],kwarg:=ξ,defaults:=[]}
def dm(s:Stmt):List Stmt:=match s with
 | .FunctionDef _ _ b _ _ _ _ _ _ _=>b
 |_=>[]
def av(s:Stmt):Scope:=match s with
 | .FunctionDef _ _ _ _ _ _ a _ _ _=>a
 |_=>{kind:=.function,names:=[],isGenerator:=θ,isCoroutine:=θ}
abbrev wZ:ES:=λ_ _ _ _ _ _=>False
abbrev E0:XK:=λ_ _ _=>False
theorem GB {X:Cx}:zP wZ X E0:=λ_ _ _ _ _ _ _ h=>h.elim
structure Fun(K:Sf)(x qual:Str)(st:Stmt)(f:Addr)(fd:Vj):Prop where
 ex: ∃(oc:Sb) (od:Option Addr) (kV doc pm:Sb) (an:Option Addr) (cdv ct:Sb) (osl:Array (Option Sb)),
  fd=Y4 x qual (gF st) (dm st) (av st) .none kV doc pm an cdv ct/\K.lookup f=p5 ⟨oc,od,.func fd,osl⟩/\jaA K cdv qual=ζ
 kp:Yb K (.ref f)=ζ
section
variable {K:Sf}
theorem Fun.ok{st:Stmt}{N i:List Str}{sp:Sp}(F:Fun K x qual st f fd)(S:bg N i (av st))(e: ∀vs H Q E,sp vs H Q E->vs.length=i.length)
 (c: ∀(b:Sb) (A:Tb) (a:List Env) (s:Sc) (H:Hp) (vs:List V) (Q:VK) (E:XK),er k (A.deeper (XI qual (av st) s.heap.objs.size f b))->sp vs H Q E->
   ∃t,PSs (ss wZ P w K mg base N qual (av st) f b A a s H E).nox (dm st) t/\t {nx:=λ_ j=>Q .non j,rt:=Q} (start N vs) H):ju P w K mg base wZ (k+1) f fd i sp:=by
 obtain⟨p,r,kV,o,v,u,b,ct,m,rfl,l,d⟩:=F.ex;refine NT l d S e λA a s H vs Q E n g=>?_
 obtain⟨t,h,q⟩:=c b A a s H vs Q E n g;exact⟨t,h.nox,q⟩
theorem Fun.binds{st:Stmt}{e:List Str}(F:Fun K x qual st f fd)
 (h: ∀(kV b c:Sb) (d:Option Addr) (a ct:Sb) (us:List Sb),us.length=e.length->bindArgs (Y4 x qual (gF st) (dm st) (av st) .none kV b c d a ct) ⟨us,[]⟩=pure (e.zip us)):nT K fd e []:=by
 obtain⟨j,k,kV,b,c,d,a,ct,i,rfl,l,g⟩:=F.ex;exact .all (h kV b c d a ct)
theorem Ad{st:Stmt}{h:Sb}{i g:Option Addr}{d:Array (Option Sb)}{kV b e a ct:Sb}(l:K.lookup f=p5 ⟨h,i,.func (Y4 x qual (gF st) (dm st) (av st) .none kV b e g a ct),d⟩)
 (c:jaA K a qual=ζ) (k:Yb K (.ref f)=ζ):Fun K x qual st f (Y4 x qual (gF st) (dm st) (av st) .none kV b e g a ct):=⟨⟨h,i,kV,b,e,g,a,ct,d,rfl,l,c⟩,k⟩
end
theorem eC {A:Tb}(a:er k A):A.units+1<cLine:=SK (Vb (by simp:1<=64) _) a.units
theorem fT {n:Nat}(h:n<=1000):n<sizeLine:=SK h ()
section
variable {X:Cx}
theorem pv(i:Nat)(b:X.N[i]? =p5 x:=by rfl)(hv:oe X.env.scope x:=by first|exact TJ rfl|exact Ta (TJ rfl)|exact Ta (Ta rfl))(c:(x==("__debug__":Str))=false:=by decide)
 (a:(x==("__classdict__":Str))=false:=by decide):PE X (.Name x pos) (PD i):=MH b hv c a
end
theorem Ft {A B:Prop}(h:B):if θ=ζ then A else B:=by
 nofun
theorem GO {A B:Prop}(h:A):if ζ=ζ then A else B:=by
 nofun
def ab(H a:Hp):Prop:= ∀b o,H b=p5 o->a b=p5 o
theorem ab.refl(H:Hp):ab H H:=λ_ _ h=>h
theorem ab.trans(a:ab H H1)(b:ab H1 H2):ab H H2:=λc o h=>b c o (a c o h)
theorem ab.free(e:ab H H')(h:H' l=jfG):H l=Option.none:=by
 cases q:H l with
 |none=>rfl
 |some o=>
  rw[e l o q] at h;omega
theorem ab.seq {K:Sf}(e:ab H H')(h:SqL K H a xs):SqL K H' a xs:=by
 rcases h with(h|⟨o,h⟩)|h
 ·exact .inl (.inl (e _ _ h))
 ·exact .inl (.inr ⟨o,e _ _ h⟩)
 ·exact .inr h
inductive D where
 |non|bl (b:Bool)|int (i:Int)|str (x:Str)|tup (ds:List D)|lst (ds:List D)
 |scr (ds:List D)
 |dct (ks:List (List bj)) (ds:List D)
def SqR(K:Sf)(H:Hp)(a:Addr)(xs:List V):Prop:=
 (∃o,H a=p5 (.frz o (.lst xs)))\/
   ∃(o:Obj) (b:Array Sb) (n:Nat),K.lookup a=p5 o/\o.cls=.type "list"/\o.dict=ξ/\o.data=.seq b n/\b.size<=SC/\cb xs b.toList
theorem SqR.seq {K:Sf}(h:SqR K H a xs):SqL K H a xs:=h.elim (λh=>.inl (.inr h)) .inr
theorem ab.seqR {K:Sf}(e:ab H H')(h:SqR K H a xs):SqR K H' a xs:=h.elim (λ⟨o,h⟩=>.inl ⟨o,e _ _ h⟩) .inr
mutual
inductive Rep (K:Sf) (F:Hp):V->D->Prop
 |non:Rep K F .non .non
 |bl {b:Bool}:Rep K F (.bl b) (.bl b)
 |int {i:Int}:Rep K F (.int i) (.int i)
 |str {x:Str}:Rep K F (.str x) (.str x)
 |tup {a:Addr} {xs:List V} {ds:List D}:F a=some (.tup xs)->Reps K F xs ds->Rep K F (.ref a) (.tup ds)
 |lst {a:Addr} {xs:List V} {ds:List D}:F a=some (.lst xs)->Reps K F xs ds->Rep K F (.ref a) (.lst ds)
 |scr {a:Addr} {xs:List V} {ds:List D}:SqR K F a xs->Reps K F xs ds->Rep K F (.ref a) (.scr ds)
 |dct {a:Addr} {o:Obj} {xs:List V} {ks:List (List bj)} {ds:List D}:F a=some (.frz o (.dT (ks.zip xs)))->ks.length=xs.length->Reps K F xs ds->Rep K F (.ref a) (.dct ks ds)
inductive Reps (K:Sf) (F:Hp):List V->List D->Prop
 |nil:Reps K F [] []
 |cons {x:V} {d:D} {xs:List V} {ds:List D}:Rep K F x d->Reps K F xs ds->Reps K F (x::xs) (d::ds)
end
theorem ab.seqT {K:Sf}(e:ab H H')(h:SqT K H a xs):SqT K H' a xs:=by
 rcases h with(h|⟨o,h⟩)|h
 ·exact .inl (.inl (e _ _ h))
 ·exact .inl (.inr ⟨o,e _ _ h⟩)
 ·exact .inr h
mutual
theorem Rep.mono {K:Sf}(s:ab F G): ∀ {v:V} {d:D},Rep K F v d->Rep K G v d
 |_,_,.non=>.non
 |_,_,.bl=>.bl
 |_,_,.int=>.int
 |_,_,.str=>.str
 |_,_,.tup h r=>.tup (s _ _ h) (Reps.mono s r)
 |_,_,.lst h r=>.lst (s _ _ h) (Reps.mono s r)
 |_,_,.scr h r=>.scr (ab.seqR s h) (Reps.mono s r)
 |_,_,.dct h l r=>.dct (s _ _ h) l (Reps.mono s r)
theorem Reps.mono {K:Sf}(s:ab F G): ∀ {v:List V} {d:List D},Reps K F v d->Reps K G v d
 |_,_,.nil=>.nil
 |_,_,.cons r t=>.cons (Rep.mono s r) (Reps.mono s t)
end
section
variable {K:Sf}
theorem Reps.length: ∀ {xs:List V} {ds:List D},Reps K F xs ds->xs.length=ds.length
 |_,_,.nil=>rfl
 |_,_,.cons _ t=>by simp[t.length]
theorem Reps.get: ∀ {xs:List V} {ds:List D} {i:Nat} {d:D},Reps K F xs ds->ds[i]? =p5 d-> ∃x,xs[i]? =p5 x/\Rep K F x d
 |_,_,_,_,.nil,e=>by simp at e
 |_,_,0,_,.cons r _,e=>by nofun
 |_,_,i+1,d,.cons _ t,e=>by
  obtain⟨u,a,b⟩:=Reps.get (i:=i) (d:=d) t (by simpa using e);exact⟨u,by simpa using a,b⟩
theorem Reps.get'{i:Nat}(r:Reps K F xs ds)(e:xs[i]? =p5 x): ∃d,ds[i]? =p5 d/\Rep K F x d:=by
 have f:=r.length;have g:=(Sz.mp e).1;have b:ds[i]? =p5 ds[i]:=Su (by nofun);obtain⟨y,a,c⟩:=r.get b;rw[e] at a;cases a;exact⟨_,b,c⟩
theorem Reps.append: ∀ {xs ys:List V} {us a:List D},Reps K F xs us->Reps K F ys a->Reps K F (xs++ys) (us++a)
 |_,_,_,_,.nil,s=>s
 |_,_,_,_,.cons r t,s=>.cons r (Reps.append t s)
theorem Reps.set(r:Rep K F x u): ∀ {xs:List V} {us:List D} (i:Nat),Reps K F xs us->Reps K F (xs.set i x) (us.set i u)
 |_,_,_,.nil=>.nil
 |_,_,0,.cons _ t=>.cons r t
 |_,_,i+1,.cons q t=>.cons q (Reps.set r i t)
theorem Reps.eraseIdx: ∀ {xs:List V} {us:List D} (i:Nat),Reps K F xs us->Reps K F (xs.eraseIdx i) (us.eraseIdx i)
 |_,_,_,.nil=>.nil
 |_,_,0,.cons _ t=>t
 |_,_,i+1,.cons q t=>.cons q (Reps.eraseIdx i t)
theorem Reps.take: ∀ {xs:List V} {us:List D} (n:Nat),Reps K F xs us->Reps K F (xs.take n) (us.take n)
 |_,_,0,_=>.nil
 |_,_,_+1,.nil=>.nil
 |_,_,n+1,.cons r t=>.cons r (Reps.take n t)
theorem Reps.drop: ∀ {xs:List V} {us:List D} (n:Nat),Reps K F xs us->Reps K F (xs.drop n) (us.drop n)
 |_,_,0,r=>r
 |_,_,_+1,.nil=>.nil
 |_,_,n+1,.cons _ t=>Reps.drop n t
end
abbrev bv:=Addr->Bool
def vw(H:Hp)(hid:bv):Hp:=λb=>if hid b=ζ then ξ else H b
def bI(hid:bv)(a:Addr):bv:=λb=>hid b||decide (b=a)
def eQ(hid:bv)(a:Addr):bv:=λb=>hid b&& !χ (b=a)
theorem cc:vw H hid b=p5 o↔hid b=θ/\H b=p5 o:=by
 simp[vw]
theorem cu(H:Hp)(hid:bv):ab (vw H hid) H:=λb o h=>(cc.mp h).2
theorem aH{hid:bv}(s:ab H H'):ab (vw H hid) (vw H' hid):=λb o h=>cc.mpr ⟨(cc.mp h).1,s _ _ (cc.mp h).2⟩
theorem AR(s: ∀b o,H b=p5 o->hid b=θ->H' b=p5 o):ab (vw H hid) (vw H' hid):=λb o h=>cc.mpr ⟨(cc.mp h).1,s _ _ (cc.mp h).2 (cc.mp h).1⟩
theorem cm(h:hid a=ζ):vw (aV H a o) hid=vw H hid:=by
 funext b;unfold vw aV;lia
theorem ft(h: ∀b,hid' b=ζ->hid b=ζ):ab (vw H hid) (vw H hid'):=λb o q=>by
 obtain⟨c,a⟩:=cc.mp q;refine cc.mpr ⟨?_,a⟩;grind
theorem vE(h:H a=ξ):vw (aV H a o) (bI hid a)=vw H hid:=by
 funext b;unfold vw aV bI;lia
inductive NO where
 |l (ds:List D)
 |k (kvs:List (bj×D))
inductive Ob where
 |nst (us:List NO)
 |dR (kvs:List (bj×D))
 |dRs (l:List (List (bj×D)))
 |exc (x:Str) (n:Int)
 |dK (kvs:List (bj×D))
 |dT (kvs:List (List bj×D))
 |set (ds:List D)
 |old (d:D)
 |jnk
 |tset (ks:List (List Int))
 |dF (kvs:List (List bj×D))
 |dQ (kvs:List (List bj×D))
 |frs (d:D)
 |dN (kvs:List (List bj×List D))
inductive Sl where
 |no
 |v (d:D)
 |own (ds:List D)
 |arg (ds:List D)
 |ob (b:Ob)
abbrev aC:=List Sl
structure Ct where
 H₀:Hp
 hid₀:bv
 mu:Addr->Bool
def PJ(K:Sf)(x:Str)(n:Int)(a:Addr)(h:Heap):Prop:= ∃C o,W.nsIn K Ut x=p5 (p5 (.ref C))/\h.get? a=p5 o/\o.cls=.ref C/\o.dict=ξ/\W.notCls o=ζ
def vS:Option HO->Bool
 |some (.lst _)=>ζ
 |_=>θ
def fv(c:Ct)(F:Hp):Hp:=λb=>if(c.H₀ b).isSome=ζ/\vS (F b)=ζ then ξ else F b
def ov(c:Ct)(F:Hp):Hp:=λb=>if(c.H₀ b).isSome=ζ then F b else ξ
theorem t4 {c:Ct}:fv c F b=p5 o↔(vS (p5 o)=ζ->c.H₀ b=ξ)/\F b=p5 o:=by
 unfold fv;constructor
 ·intro h;split at h
  ·nofun
  ·rename_i a
   refine⟨λq=>?_,h⟩;nofun
 ·grind
theorem t7 {c:Ct}:ov c F b=p5 o↔(∃u,c.H₀ b=p5 u)/\F b=p5 o:=by
 unfold ov;cases hb:c.H₀ b<;>simp
theorem B9(s:ab F G):ab (fv c F) (fv c G):=λb o h=>t4.mpr ⟨(t4.mp h).1,s _ _ (t4.mp h).2⟩
theorem Ke(s:ab F G):ab (ov c F) (ov c G):=λb o h=>t7.mpr ⟨(t7.mp h).1,s _ _ (t7.mp h).2⟩
def NOk(K:Sf)(c:Ct)(hid:bv)(H:Hp)(p a:Addr):NO->Prop
 | .l ds=>(hid a=ζ/\c.H₀ a=ξ)/\ ∃xs:List V,H a=p5 (.nst p (.lst xs))/\Reps K (vw H hid) xs ds
 | .k kvs=>(hid a=ζ/\c.H₀ a=ξ)/\ ∃us:List (bj×V),H a=p5 (.nst p (.dK us))/\us.map (·.1)=kvs.map (·.1)/\Reps K (vw H hid) (us.map (·.2)) (kvs.map (·.2))
theorem NOk.mono {K:Sf}{hid d:bv}(h:NOk K c hid H p a b)(k: ∀u,H a=p5 (.nst p u)->H' a=p5 (.nst p u))(s:ab (vw H hid) (vw H' d))(w:(∃u,H a=p5 (.nst p u))->d a=ζ):NOk K c d H' p a b:=by
 cases b with
 |l ds=>obtain⟨f,us,e,g⟩:=h;exact⟨⟨w ⟨_,e⟩,f.2⟩,us,k _ e,g.mono s⟩
 |k kvs=>obtain⟨f,us,e,g,i⟩:=h;exact⟨⟨w ⟨_,e⟩,f.2⟩,us,k _ e,g,i.mono s⟩
def DRd(K:Sf)(W:Hp)(a:Addr)(kvs:List (bj×D)):Prop:= ∃o us,W a=p5 (.frz o (.dK us))/\us.map (·.1)=kvs.map (·.1)/\Reps K W (us.map (·.2)) (kvs.map (·.2))
theorem DRd.mono {K:Sf}(h:DRd K W a kvs)(s:ab W W'):DRd K W' a kvs:=by
 obtain⟨o,us,b,c,d⟩:=h;exact⟨o,us,s _ _ b,c,d.mono s⟩
def DQd(K:Sf)(W:Hp)(a:Addr)(kvs:List (List bj×D)):Prop:= ∃o us,W a=p5 (.frz o (.dT us))/\us.map (·.1)=kvs.map (·.1)/\Reps K W (us.map (·.2)) (kvs.map (·.2))
theorem DQd.mono {K:Sf}(h:DQd K W a kvs)(s:ab W W'):DQd K W' a kvs:=by
 obtain⟨o,us,b,c,d⟩:=h;exact⟨o,us,s _ _ b,c,d.mono s⟩
def so(K:Sf)(c:Ct)(hid:bv)(H:Hp)(a:Addr):Ob->Prop
 | .nst us=>(hid a=ζ/\c.H₀ a=ξ)/\ ∃bs:List Addr,H a=p5 (.lst (bs.map V.ref))/\bs.Nodup/\Paired (NOk K c hid H a) bs us
 | .dR kvs=>DRd K (vw H hid) a kvs
 | .dQ kvs=>DQd K (vw H hid) a kvs
 | .frs d=>Rep K (fv c (vw H hid)) (.ref a) d
 | .dN kvs=>(hid a=ζ/\c.H₀ a=ξ)/\ ∃(us:List (List bj×V)) (bs:List Addr),H a=p5 (.dT us)/\us.map (·.1)=kvs.map (·.1)/\us.map (·.2)=bs.map V.ref/\bs.Nodup/\Paired (NOk K c hid H a) bs (kvs.map λz=>NO.l z.2)
 | .dRs l=> ∃bs:List Addr,vw H hid a=p5 (.lst (bs.map V.ref))/\Paired (DRd K (vw H hid)) bs l
 | .exc x n=> ∃φ,vw H hid a=p5 (.ext φ)/\ ∀h,φ h->PJ K x n a h
 | .dK kvs=>(hid a=ζ/\c.H₀ a=ξ)/\ ∃us:List (bj×V),H a=p5 (.dK us)/\us.map (·.1)=kvs.map (·.1)/\Reps K (vw H hid) (us.map (·.2)) (kvs.map (·.2))
 | .dT kvs=>(hid a=ζ/\c.H₀ a=ξ)/\ ∃us:List (List bj×V),H a=p5 (.dT us)/\us.map (·.1)=kvs.map (·.1)/\Reps K (vw H hid) (us.map (·.2)) (kvs.map (·.2))
 | .set ds=>(hid a=ζ/\c.H₀ a=ξ)/\ ∃xs:List V,H a=p5 (.lst xs)/\Reps K (fv c (vw H hid)) xs ds
 | .old d=>Rep K (ov c (vw H hid)) (.ref a) d
 | .jnk=>(hid a=ζ/\c.H₀ a=ξ)/\ ∃xs:List V,H a=p5 (.lst xs)
 | .tset ks=>(hid a=ζ/\c.H₀ a=ξ)/\ ∃xs:List (List Int×Addr),H a=p5 (.tst xs)/\(xs.map (·.1)).Perm ks/\Reps K (vw H hid) (xs.map λx=>V.ref x.2) (xs.map λx=>D.tup (x.1.map D.int))
 | .dF kvs=>(hid a=ζ/\c.H₀ a=ξ)/\ ∃(o:Obj) (us:List (List bj×V)),H a=p5 (.frz o (.dT us))/\us.map (·.1)=kvs.map (·.1)/\Reps K (vw H hid) (us.map (·.2)) (kvs.map (·.2))
def vV:Ob->Prop
 | .exc _ _=>False
 | .old _=>False
 | .dR _=>False
 | .dRs _=>False
 | .dQ _=>False
 | .frs _=>False
 |_=>True
def At(H:Hp)(a x:Addr):Prop:=x=a\/ ∃u,H x=p5 (.nst a u)
theorem At.ne(b:At H a' x)(ne:a'≠a)(d:H a=p5 o)(f: ∀p u,o≠ .nst p u:=by intro _ _ e;cases e):x≠a:=λe=>by
 subst e;rcases b with rfl|⟨u,c⟩
 ·exact ne rfl
 ·rw[d] at c;nofun
theorem so.mono {K:Sf}{hid g:bv}(h:so K c hid H a b)(k:vV b-> ∀x,At H a x-> ∀o,H x=p5 o->H' x=p5 o)(s:ab (vw H hid) (vw H' g))(w:vV b-> ∀x,At H a x->hid x=ζ->g x=ζ):so K c g H' a b:=by
 have p:vV b-> ∀o,H a=p5 o->H' a=p5 o:=λo=>k o a (.inl rfl)
 have m:vV b->hid a=ζ->g a=true:=λo=>w o a (.inl rfl)
 cases b with
 |nst us=>
  obtain⟨e,bs,f,i,j⟩:=h;refine⟨⟨m trivial e.1,e.2⟩,bs,p trivial _ f,i,Paired.mapP j λx y z=>z.mono (λu q=>k trivial x (.inr ⟨u,q⟩) _ q) s λq=>w trivial x (.inr q) ?_⟩;cases y with
  |l ds=>exact z.1.1
  |k kvs=>exact z.1.1
 |dR kvs=>exact DRd.mono h s
 |dQ kvs=>exact DQd.mono h s
 |frs d=>exact Rep.mono (B9 s) h
 |dN kvs=>
  obtain⟨e,us,bs,f,i,j,t,r⟩:=h;refine⟨⟨m trivial e.1,e.2⟩,us,bs,p trivial _ f,i,j,t,Paired.mapP r λx y z=>z.mono (λu q=>k trivial x (.inr ⟨u,q⟩) _ q) s λq=>w trivial x (.inr q) ?_⟩;cases y with
  |l ds=>exact z.1.1
  |k kvs=>exact z.1.1
 |dRs l=>obtain⟨bs,e,f⟩:=h;exact⟨bs,s _ _ e,Paired.mapP f λ_ _ z=>z.mono s⟩
 |exc x n=>obtain⟨φ,e,f⟩:=h;exact⟨φ,s _ _ e,f⟩
 |dK kvs=>obtain⟨e,us,f,i,j⟩:=h;exact⟨⟨m trivial e.1,e.2⟩,us,p trivial _ f,i,j.mono s⟩
 |dT kvs=>obtain⟨e,us,f,i,j⟩:=h;exact⟨⟨m trivial e.1,e.2⟩,us,p trivial _ f,i,j.mono s⟩
 |set ds=>obtain⟨e,us,f,i⟩:=h;exact⟨⟨m trivial e.1,e.2⟩,us,p trivial _ f,i.mono (B9 s)⟩
 |old d=>exact Rep.mono (Ke s) h
 |jnk=>obtain⟨e,us,f⟩:=h;exact⟨⟨m trivial e.1,e.2⟩,us,p trivial _ f⟩
 |tset ks=>obtain⟨e,us,f,i,j⟩:=h;exact⟨⟨m trivial e.1,e.2⟩,us,p trivial _ f,i,j.mono s⟩
 |dF kvs=>obtain⟨e,o,us,f,i,j⟩:=h;exact⟨⟨m trivial e.1,e.2⟩,o,us,p trivial _ f,i,j.mono s⟩
theorem so.hid {K:Sf}{c:Ct}{hid:bv}{H:Hp}{a:Addr}{b:Ob}(h:so K c hid H a b)(o:vV b):hid a=true:=by
 cases b with
 |nst us=>exact h.1.1
 |dQ kvs=>exact o.elim
 |frs d=>exact o.elim
 |dN kvs=>exact h.1.1
 |dR kvs=>exact o.elim
 |dRs l=>exact o.elim
 |exc x n=>exact o.elim
 |dK kvs=>exact h.1.1
 |dT kvs=>exact h.1.1
 |set ds=>exact h.1.1
 |old d=>exact o.elim
 |jnk=>exact h.1.1
 |tset ks=>exact h.1.1
 |dF kvs=>exact h.1.1
def u5(K:Sf)(c:Ct)(hid:bv)(σ:St)(H:Hp)(i:Nat):Sl->Prop
 | .no=>True
 | .v d=> ∃x,σ[i]? =p5 (p5 x)/\Rep K (vw H hid) x d
 | .own ds=> ∃a xs,σ[i]? =p5 (p5 (.ref a))/\H a=p5 (.lst xs)/\hid a=ζ/\c.H₀ a=ξ/\Reps K (vw H hid) xs ds
 | .arg ds=> ∃a xs,σ[i]? =p5 (p5 (.ref a))/\H a=p5 (.lst xs)/\hid a=ζ/\c.mu a=ζ/\Reps K (vw H hid) xs ds
 | .ob b=> ∃a,σ[i]? =p5 (p5 (.ref a))/\so K c hid H a b
def Ow:Option Sl->Prop
 |some (.own _)=>True
 |some (.arg _)=>True
 |some (.ob b)=>vV b
 |_=>False
structure SR(K:Sf)(c:Ct)(hid:bv)(ρ:aC)(σ:St)(H:Hp):Prop where
 tr: ∀b,hid b=ζ-> ∃o,H b=p5 o
 ht: ∀b xs,hid b=ζ->H b≠p5 (.tup xs)
 h0: ∀b,c.hid₀ b=ζ->hid b=ζ
 kp: ∀b o,c.H₀ b=p5 o->c.mu b=θ->H b=p5 o
 t0: ∀b o,c.H₀ b=p5 o-> ∃o',H b=p5 o'
 c0: ∀b,c.hid₀ b=ζ-> ∃o,c.H₀ b=p5 o
 m0: ∀b,c.mu b=ζ->c.hid₀ b=ζ
 len:σ.length=ρ.length
 sl: ∀(i:Nat) (s:Sl),ρ[i]? =p5 s->u5 K c hid σ H i s
 ap: ∀(i j:Nat) (a:Addr),i≠j->Ow ρ[i]? ->Ow ρ[j]? ->σ[i]? =p5 (p5 (.ref a))->σ[j]? =p5 (p5 (.ref a))->False
section
variable {K:Sf}{c:Ct}{hid:bv}{σ:St}{H:Hp}
theorem u5.ext(h:u5 K c hid σ H i s)(e:ab H H'):u5 K c hid σ H' i s:=by
 cases s with
 |no=>trivial
 |v d=>obtain⟨x,f,g⟩:=h;exact⟨x,f,g.mono (aH e)⟩
 |own ds=>obtain⟨a,xs,f,g,j,k,l⟩:=h;exact⟨a,xs,f,e _ _ g,j,k,l.mono (aH e)⟩
 |arg ds=>obtain⟨a,xs,f,g,j,k,l⟩:=h;exact⟨a,xs,f,e _ _ g,j,k,l.mono (aH e)⟩
 |ob b=>obtain⟨a,f,g⟩:=h;exact⟨a,f,g.mono (λ_ x _=>e x) (aH e) λ_ _ _ q=>q⟩
theorem SR.ext(h:SR K c hid ρ σ H)(e:ab H H'):SR K c hid ρ σ H' where
 tr:=λb a=>let⟨o,q⟩:=h.tr b a;⟨o,e _ _ q⟩
 ht:=λb xs a q=>let⟨o,w⟩:=h.tr b a;by have z:=e _ _ w;rw[q] at z;cases z;exact h.ht b xs a w
 h0:=h.h0
 kp:=λb o q m=>e _ _ (h.kp b o q m)
 t0:=λb o q=>let⟨o',q'⟩:=h.t0 b o q;⟨o',e _ _ q'⟩
 c0:=h.c0
 m0:=h.m0
 len:=h.len
 sl:=λi s q=>(h.sl i s q).ext e
 ap:=h.ap
def PR(hid:bv)(H:Hp):Prop:=(∀b,hid b=ζ-> ∃o,H b=p5 o)/\ ∀b xs,hid b=ζ->H b≠p5 (.tup xs)
theorem SR.trk(h:SR K c hid ρ σ H):PR hid H:=⟨h.tr,h.ht⟩
theorem SR.fresh(h:SR K c hid ρ σ H){a:Addr}(n:H a=ξ):hid a=false:=by
 cases e:hid a with
 |false=>rfl
 |true=>obtain⟨o,q⟩:=h.tr a e;nofun
theorem SR.fresh0(h:SR K c hid ρ σ H)(n:H a=ξ):c.H₀ a=none:=by
 cases e:c.H₀ a with
 |none=>rfl
 |some o=>obtain⟨o',q⟩:=h.t0 a o e;nofun
end
inductive Kd where
 |b|s|n
 deriving DecidableEq
def dr(K:Sf)(H W:Hp)(v:V)(d:D):Prop:=Rep K W v d\/ ∃a xs ds,v=.ref a/\d=.lst ds/\H a=p5 (.lst xs)/\Reps K W xs ds
def RN(K:Sf)(H b:Hp)(hid:bv)(v:V)(d:D):Prop:= ∃a xs ds,d=.lst ds/\v=.ref a/\H a=ξ/\b a=p5 (.lst xs)/\Reps K (vw b (bI hid a)) xs ds
def RK(K:Sf)(k:Kd)(H a:Hp)(hid:bv)(v:V)(d:D):Prop:=match k with
 | .b=>dr K a (vw a hid) v d
 | .s=>Rep K (vw a hid) v d
 | .n=>RN K H a hid v d
section
variable {K:Sf}
theorem RN.rep(h:RN K H H' hid v d)(f: ∀a,H a=ξ->hid a=θ):Rep K (vw H' hid) v d:=by
 obtain⟨a,xs,ds,rfl,rfl,c,e,g⟩:=h;refine .lst (cc.mpr ⟨f a c,e⟩) (g.mono (ft λb q=>?_));unfold bI;rw[q];rfl
theorem RK.b(k:Kd)(h:RK K k H H' hid v d)(c: ∀a,H a=ξ->hid a=θ):dr K H' (vw H' hid) v d:=by
 cases k with
 |b=>exact h
 |s=>exact .inl h
 |n=>exact .inl (RN.rep h c)
theorem dr.ext {hid:bv}(h:dr K H (vw H hid) v d)(e:ab H H'):dr K H' (vw H' hid) v d:=by
 rcases h with h|⟨a,xs,ds,b,f,g,c⟩
 ·exact .inl (h.mono (aH e))
 ·exact .inr ⟨a,xs,ds,b,f,e _ _ g,c.mono (aH e)⟩
theorem dr.int {i:Int}(h:dr K H (vw H hid) v (.int i)):v=.int i:=by
 rcases h with h|⟨a,xs,ds,b,c,_⟩
 ·cases h;rfl
 nofun
theorem dr.bl {i:Bool}(h:dr K H (vw H hid) v (.bl i)):v=.bl i:=by
 rcases h with h|⟨a,xs,ds,b,c,_⟩
 ·cases h;rfl
 nofun
theorem dr.str {i:Str}(h:dr K H (vw H hid) v (.str i)):v=.str i:=by
 rcases h with h|⟨a,xs,ds,b,c,_⟩
 ·cases h;rfl
 nofun
theorem dr.non(h:dr K H (vw H hid) v .non):v=.non:=by
 rcases h with h|⟨a,xs,ds,b,c,_⟩
 ·cases h;rfl
 nofun
theorem dr.tup(h:dr K H (vw H hid) v (.tup ds)): ∃a xs,v=.ref a/\vw H hid a=p5 (.tup xs)/\SqT K H a xs/\Reps K (vw H hid) xs ds:=by
 rcases h with h|⟨a,xs,ds,b,c,_⟩
 ·cases h with
  |tup q r=>exact⟨_,_,rfl,q,SqT.of (cu _ _ _ _ q),r⟩
 nofun
theorem dr.lst(h:dr K H (vw H hid) v (.lst ds)): ∃a xs,v=.ref a/\SqL K H a xs/\Reps K (vw H hid) xs ds:=by
 rcases h with h|⟨a,xs,ds,b,d,e,c⟩
 ·cases h with
  |lst q r=>exact⟨_,_,rfl,SqL.of (cu _ _ _ _ q),r⟩
 ·cases d;exact⟨a,xs,b,SqL.of e,c⟩
theorem dr.scr(h:dr K H (vw H hid) v (.scr ds)): ∃a xs,v=.ref a/\SqL K H a xs/\Reps K (vw H hid) xs ds:=by
 rcases h with h|⟨a,xs,ds,b,d,e,c⟩
 ·cases h with
  |scr q r=>exact⟨_,_,rfl,(cu _ _).seq q.seq,r⟩
 nofun
end
theorem PE.imp {X:Cx}(h:PE X e t)(i: ∀σ H Q,t' σ H Q->t σ H Q):PE X e t':=λa s σ H Q I q=>h a s σ H Q I (i σ H Q q)
theorem PT.imp {X:Cx}(h:PT X e t)(i: ∀σ H Q,t' σ H Q->t σ H Q):PT X e t':=λa s σ H Q I q=>h a s σ H Q I (i σ H Q q)
theorem PW.imp {X:Cx}(h:PW X e t)(i: ∀σ H Q,t' σ H Q->t σ H Q):PW X e t':=λb a s σ H Q I q=>h b a s σ H Q I (i σ H Q q)
theorem PA.imp {X:Cx}(h:PA X e t)(i: ∀σ H Q,t' σ H Q->t σ H Q):PA X e t':=λp a s σ H Q I q=>h p a s σ H Q I (i σ H Q q)
theorem PS.imp {X:Cx}(h:PS X e t)(i: ∀D σ H,t' D σ H->t D σ H):PS X e t':=λa s σ H D I q=>h a s σ H D I (i D σ H q)
theorem PSs.imp {X:Cx}(h:PSs X e t)(i: ∀D σ H,t' D σ H->t D σ H):PSs X e t':=λa s σ H D I q=>h a s σ H D I (i D σ H q)
abbrev FE:=aC->Option D
abbrev FT:=aC->Option Bool
abbrev FA:=aC->Option (List D)
def Me(K:Sf)(c:Ct)(hid:bv)(k:Kd)(f:FE)(ρ:aC):TE:=λσ H Q=>SR K c hid ρ σ H/\ ∃d,f ρ=p5 d/\ ∀v a,ab H a->RK K k H a hid v d->Q v a
def Q6(K:Sf)(c:Ct)(hid:bv)(f:FT)(ρ:aC):TT:=λσ H Q=>SR K c hid ρ σ H/\ ∃d,f ρ=p5 d/\ ∀a,ab H a->Q d a
def RS(K:Sf)(c:Ct)(hid:bv)(f:FA)(ρ:aC):TA:=λσ H Q=>SR K c hid ρ σ H/\ ∃d,f ρ=p5 d/\ ∀vs a,ab H a->Reps K (vw a hid) vs d->Q vs a
def DP(X:Cx)(c:Ct)(k:Kd)(e:Expr)(f:FE):Prop:= ∀hid ρ,PE X e (Me X.K c hid k f ρ)
def DT(X:Cx)(c:Ct)(e:Expr)(f:FT):Prop:= ∀hid ρ,PT X e (Q6 X.K c hid f ρ)
def DW(X:Cx)(c:Ct)(e:Expr)(f:FT):Prop:= ∀hid ρ,PW X e (Q6 X.K c hid f ρ)
def DA(X:Cx)(c:Ct)(es:List Expr)(f:FA):Prop:= ∀hid ρ,PA X es (RS X.K c hid f ρ)
section
variable {X:Cx}{a b:Expr}{f g:FE}{k:Kd}
theorem DP.toS(h:DP X c .n e f):DP X c .s e f:=λhid ρ=>PE.imp (h hid ρ) λσ H Q ⟨b,d,i,q⟩=>⟨b,d,i,λv g s r=>q v g s (RN.rep r λa n=>b.fresh n)⟩
def ah(i:Nat):FE:=λρ=>match ρ[i]? with
 |some (.v d)=>p5 d
 |_=>ξ
def dZ(i:Nat):FE:=λρ=>match ρ[i]? with
 |some (.v d)=>p5 d
 |some (.own ds)=>p5 (.lst ds)
 |some (.arg ds)=>p5 (.lst ds)
 |_=>ξ
theorem af(i:Nat)(h:X.N[i]? =p5 x:=by rfl)(hv:oe X.env.scope x:=by first|exact TJ rfl|exact Ta (TJ rfl)|exact Ta (Ta rfl))(a:(x==("__debug__":Str))=false:=by decide)
 (b:(x==("__classdict__":Str))=false:=by decide):DP X c .s (.Name x pos) (ah i):=λhid ρ=>PE.imp (pv i h hv a b) λσ H Q e=>by
 obtain⟨f,d,a,q⟩:=e;unfold ah at a;split at a
 ·rename_i d' k
  cases a;obtain⟨x,g,j⟩:=f.sl i _ k;exact⟨x,g,q x H (ab.refl _) j⟩
 nofun
theorem dC(i:Nat)(n:X.N[i]? =p5 x:=by rfl)(hv:oe X.env.scope x:=by first|exact TJ rfl|exact Ta (TJ rfl)|exact Ta (Ta rfl))(e:(x==("__debug__":Str))=false:=by decide)
 (k:(x==("__classdict__":Str))=false:=by decide):DP X c .b (.Name x pos) (dZ i):=λhid ρ=>PE.imp (pv i n hv e k) λσ H Q l=>by
 obtain⟨j,d,e,q⟩:=l;unfold dZ at e;split at e
 ·rename_i d' h
  cases e;obtain⟨x,f,g⟩:=j.sl i _ h;exact⟨x,f,q x H (ab.refl _) (.inl g)⟩
 ·rename_i d' h
  cases e;obtain⟨a,xs,f,g,o,p,m⟩:=j.sl i _ h;exact⟨_,f,q _ H (ab.refl _) (.inr ⟨a,xs,_,rfl,rfl,g,m⟩)⟩
 ·rename_i d' h
  cases e;obtain⟨a,xs,f,g,o,p,m⟩:=j.sl i _ h;exact⟨_,f,q _ H (ab.refl _) (.inr ⟨a,xs,_,rfl,rfl,g,m⟩)⟩
 nofun
def aD(d:D):FE:=λ_=>p5 d
theorem aq{j pos}:DP X c .s (.Constant (.int i) j pos) (aD (.int i)):=λhid ρ=>PE.imp Nv λσ H Q a=>by
 obtain⟨e,d,b,q⟩:=a;cases b;exact q _ H (ab.refl _) .int
theorem gG{j pos}:DP X c .s (.Constant (.bool i) j pos) (aD (.bl i)):=λhid ρ=>PE.imp Pf λσ H Q a=>by
 obtain⟨e,d,b,q⟩:=a;cases b;exact q _ H (ab.refl _) .bl
def ar(F:D->D->Option D)(f g:FE):FE:=λρ=>(f ρ).bind λx=>(g ρ).bind λy=>F x y
theorem yx(h:ar F f g ρ=p5 d): ∃x y,f ρ=p5 x/\g ρ=p5 y/\F x y=p5 d:=by
 unfold ar at h;cases e1:f ρ with
 |none=>nofun
 |some x=>
  cases e2:g ρ with
  |none=>nofun
  |some y=>rw[e1,e2] at h;exact⟨x,y,rfl,rfl,h⟩
def rR(K:Sf)(k:Kd)(r:R2)(F:D->D->Option D):Prop:= ∀(H:Hp) (hid:bv) (v u:V) (x y d:D) (Q:VK),(∀a,H a=ξ->hid a=θ)->F x y=p5 d->dr K H (vw H hid) v x->dr K H (vw H hid) u y->
 (∀w b,ab H b->RK K k H b hid w d->Q w b)->r v u H Q
theorem RK.left {K:Sf}(s:ab H H1)(h:RK K k H1 H' hid v d):RK K k H H' hid v d:=by
 cases k with
 |b=>exact h
 |s=>exact h
 |n=>
  obtain⟨a,xs,ds,c,f,g,e⟩:=h;exact⟨a,xs,ds,c,f,s.free g,e⟩
theorem P4{F:D->D->Option D}(G:rR X.K k r F){H:Hp}(h:Me X.K c hid k (ar F f g) ρ σ H Q):NG r (Me X.K c hid k1 f ρ) (Me X.K c hid k2 g ρ) σ H Q:=by
 obtain⟨e,d,A,q⟩:=h;obtain⟨x,y,s,C,B⟩:=yx A;refine⟨e,x,s,λv J i z=>⟨e.ext i,y,C,λu E j p=>?_⟩⟩;have I:=(RK.b k1 z λa n=>e.fresh n).ext j;have t:=RK.b k2 p λa n=>(e.ext i).fresh n
 exact G E hid v u x y d Q (λa n=>((e.ext i).ext j).fresh n) B I t λw l m o=>q w l ((i.trans j).trans m) (RK.left (i.trans j) o)
theorem oj(i:kK X (U9 op) r)(d:rR X.K k r F)(j:DP X c k1 a f)(e:DP X c k2 b g):DP X c k (.BinOp a op b pos) (ar F f g):=λhid ρ=>
 PE.imp (AE i (j hid ρ) (e hid ρ)) λσ H Q h=>P4 d h
theorem dw(k:kK X (Ub op) r)(j:rR X.K .s r F)(e:DP X c k1 a f)(d:DP X c k2 b g)(i:UG op b=θ):DP X c .s (.Compare a [op] [b] pos) (ar F f g):=λhid ρ=>
 PE.imp (Kk k (e hid ρ) (d hid ρ) i) λσ H Q h=>P4 j h
def DY:Option D->Option Bool
 |some (.bl b)=>p5 b
 |_=>ξ
theorem bG(t:kK X (Ub op) r)(p:rR X.K .s r F)(n:DP X c k1 a f)(m:DP X c k2 b g)(o:UG op b=θ):DT X c (.Compare a [op] [b] pos) (λρ=>DY (ar F f g ρ)):=λhid ρ=>
 PT.imp (Je t (n hid ρ) (m hid ρ) o) λσ H Q i=>by
  obtain⟨j,d,h,q⟩:=i;refine P4 (X:=X) (k:=.s) (F:=F) p ?_
  dsimp only at h;cases e:ar F f g ρ with
  |none=>rw[e] at h;cases h
  |some x=>
   rw[e] at h;cases x with
   |bl z=>
    cases h;refine⟨j,_,e,λv l s r=>⟨d,?_,q l s⟩⟩;cases r;rfl
   |_=>cases h
theorem aK(j:IxR X r)(l:rR X.K k r F)(i:DP X c k1 a f)(e:DP X c k2 b g)(d:BI b):DP X c k (.Subscript a b pos) (ar F f g):=λhid ρ=>
 PE.imp (OP j (i hid ρ) (e hid ρ) d) λσ H Q h=>P4 l h
end
def i2(C:Int->Int->Bool)(G:Int->Int->D):D->D->Option D
 | .int i,.int j=>if C i j=ζ then p5 (G i j) else ξ
 |_,_=>ξ
section
variable {K:Sf}
theorem wq(h:i2 C G x y=p5 d): ∃i j,x=.int i/\y=.int j/\C i j=ζ/\d=G i j:=by
 unfold i2 at h;grind
theorem Kl{g:Int->Int->Int}(e: ∀i j,B i j=ζ->C i j):rR K .s (rI C λi j=>.int (g i j)) (i2 B λi j=>.int (g i j)):=by
 intro H hid v u x y d Q f h c b q;obtain⟨i,j,rfl,rfl,a,rfl⟩:=wq h;cases c.int;cases b.int;exact⟨i,j,rfl,rfl,e i j a,q _ H (ab.refl _) .int⟩
theorem FZ {g:Int->Int->Int}:rR K .s (HX λi j=>.int (g i j)) (i2 (λ_ _=>ζ) λi j=>.int (g i j)):=by
 intro H hid v u x y d Q e h b a q;obtain⟨i,j,rfl,rfl,c,rfl⟩:=wq h;cases b.int;cases a.int;exact⟨i,j,rfl,rfl,q _ H (ab.refl _) .int⟩
theorem fD {g:Int->Int->Bool}:rR K .s (HX λi j=>.bl (g i j)) (i2 (λ_ _=>ζ) λi j=>.bl (g i j)):=by
 intro H hid v u x y d Q e h b a q;obtain⟨i,j,rfl,rfl,c,rfl⟩:=wq h;cases b.int;cases a.int;exact⟨i,j,rfl,rfl,q _ H (ab.refl _) .bl⟩
end
section
variable {X:Cx}{a b:Expr}{rest:List Expr}{f g:FE}{p q:FT}
def J1:D->Option Bool
 | .non=>p5 θ
 | .bl b=>p5 b
 | .int i=>p5 (i !=0)
 | .str y=>if y.length<=SC then p5 ((y.length:Int) !=0) else ξ
 | .lst ds=>p5 (!ds.isEmpty)
 | .tup ds=>p5 (!ds.isEmpty)
 | .scr ds=>p5 (!ds.isEmpty)
 | .dct _ _=>ξ
theorem Reps.isEmpty {K:Sf}{xs:List V}{ds:List D}(r:Reps K F xs ds):xs.isEmpty=ds.isEmpty:=by cases r<;>rfl
theorem L7 {K:Sf}{b:Bool}(h:J1 d=p5 b)(r:dr K H (vw H hid) v d):Nh K v H b:=by
 cases d with
 |non=>cases r.non;cases h;rfl
 |bl x=>cases r.bl;cases h;rfl
 |int i=>cases r.int;cases h;rfl
 |str y=>
  cases r.str;have h':(if y.length<=SC then some ((y.length:Int) !=0) else none)=some b:=h;split at h'
  ·cases h';exact⟨‹_›,rfl⟩
  nofun
 |lst ds=>
  obtain⟨a,xs,rfl,c,e⟩:=r.lst;cases h;exact .inl ⟨xs,c,by rw[e.isEmpty]⟩
 |tup ds=>
  obtain⟨a,xs,rfl,_,c,e⟩:=r.tup;cases h;exact .inr (.inl ⟨xs,c,by rw[e.isEmpty]⟩)
 |scr ds=>
  obtain⟨a,xs,rfl,c,e⟩:=r.scr;cases h;exact .inl ⟨xs,c,by rw[e.isEmpty]⟩
 |dct _ _=>cases h
def c8(f:FE):FT:=λρ=>(f ρ).bind J1
theorem c6(m:DP X c k a f)(o: ∀g,isTrue a X.env g=(do let v <-g;Yn a.pos;Wi [v] (truthy v)):=by intro _;rfl):DT X c a (c8 f):=λhid ρ=>
 PT.imp (FX (m hid ρ) o) λσ H Q i=>by
  obtain⟨j,d,h,q⟩:=i;unfold c8 at h;cases e:f ρ with
  |none=>nofun
  |some x=>
   rw[e] at h;exact⟨j,x,e,λv l s r=>⟨d,L7 h (RK.b k r λa n=>j.fresh n),q l s⟩⟩
def d4(p q:FT):FT:=λρ=>(p ρ).bind λb=>if b=ζ then q ρ else p5 θ
def sI(p q:FT):FT:=λρ=>(p ρ).bind λb=>if b=ζ then p5 ζ else q ρ
def fN(p:FT):FT:=λρ=>(p ρ).map (!·)
theorem im(b:DT X c a p):DW X c (.BoolOp .And [a] pos) p:=λhid ρ=>vr (b hid ρ)
theorem qa(b:DT X c a p):DW X c (.BoolOp .Or [a] pos) p:=λhid ρ=>wd (b hid ρ)
theorem kF(ha:DT X c a p)(hb:DW X c (.BoolOp .And (b::rest) pos) q):DW X c (.BoolOp .And (a::b::rest) pos) (d4 p q):=λhid ρ=>
 PW.imp (v7 (ha hid ρ) (hb hid ρ)) λσ H Q hq_=>by
  obtain⟨sr,d,hd,hq⟩:=hq_;unfold d4 at hd;cases e:p ρ with
  |none=>nofun
  |some x=>
   rw[e] at hd;refine⟨sr,x,e,λH1 s1=>?_⟩;cases x with
   |true=>exact GO ⟨sr.ext s1,d,hd,λH2 s2=>hq H2 (s1.trans s2)⟩
   |false=>nofun
theorem qi(ha:DT X c a p)(hb:DW X c (.BoolOp .Or (b::rest) pos) q):DW X c (.BoolOp .Or (a::b::rest) pos) (sI p q):=λhid ρ=>
 PW.imp (w4 (ha hid ρ) (hb hid ρ)) λσ H Q hq_=>by
  obtain⟨sr,d,hd,hq⟩:=hq_;unfold sI at hd;cases e:p ρ with
  |none=>nofun
  |some x=>
   rw[e] at hd;refine⟨sr,x,e,λH1 s1=>?_⟩;cases x with
   |false=>exact Ft ⟨sr.ext s1,d,hd,λH2 s2=>hq H2 (s1.trans s2)⟩
   |true=>nofun
theorem DW.dt(h:DW X c e p):DT X c e p:=λhid ρ=>(h hid ρ).pt
theorem iu(k:DT X c a p):DT X c (.UnaryOp .Not a pos) (fN p):=λhid ρ=>
 PT.imp (Md (k hid ρ)) λσ H Q b=>by
  obtain⟨g,d,f,h⟩:=b;unfold fN at f;cases e:p ρ with
  |none=>nofun
  |some x=>rw[e] at f;cases f;exact⟨g,x,e,λj i=>h j i⟩
def xS(p:FT):FE:=λρ=>(p ρ).map D.bl
def bO(f:FE):FT:=λρ=>DY (f ρ)
theorem p6{b:Bool}(h:bO f ρ=p5 b):f ρ=p5 (.bl b):=by
 unfold bO DY at h;grind
theorem qI(ha:DP X c .s a f)(hb:DP X c .s (.BoolOp .And (b::rest) pos) g):DP X c .s (.BoolOp .And (a::b::rest) pos) (xS (d4 (bO f) (bO g))):=λhid ρ=>
 PE.imp (LK (ha hid ρ) (hb hid ρ)) λσ H Q hq_=>by
  obtain⟨sr,d,hd,hq⟩:=hq_;unfold xS d4 at hd;cases e:bO f ρ with
  |none=>nofun
  |some x=>
   rw[e] at hd;refine⟨sr,_,p6 e,λv H1 s1 r=>?_⟩;cases r;refine⟨x,rfl,?_⟩;cases x with
   |true=>
    refine GO ?_
    cases e2:bO g ρ with
    |none=>nofun
    |some y=>
     rw[show(p5 true:Option Bool).bind (λb=>if b=ζ then bO g ρ else p5 θ)=bO g ρ from rfl,e2] at hd;cases hd;exact⟨sr.ext s1,_,p6 e2,λv2 H2 s2 r2=>hq v2 H2 (s1.trans s2) r2⟩
   |false=>cases hd;exact Ft (hq _ H1 s1 .bl)
theorem qd {op}(h:DP X c k a f):DP X c k (.BoolOp op [a] pos) f:=λhid ρ=>Mr (h hid ρ)
theorem zl(l:DP X c .s a f):DP X c .s (.UnaryOp .Not a pos) (xS (fN (bO f))):=λhid ρ=>
 PE.imp (Ni (l hid ρ)) λσ H Q b=>by
  obtain⟨h,d,g,i⟩:=b;unfold xS fN at g;cases e:bO f ρ with
  |none=>nofun
  |some x=>
   rw[e] at g;cases g;refine⟨h,_,p6 e,λv k j r=>?_⟩;cases r;exact⟨x,rfl,i _ k j .bl⟩
def Lq(p:FT)(f g:FE):FE:=λρ=>(p ρ).bind λb=>if b=ζ then f ρ else g ρ
theorem NY {t:Expr}(hk:k≠ .n)(ht:DT X c t p)(ha:DP X c k a f)(hb:DP X c k b g):DP X c k (.IfExp t a b pos) (Lq p f g):=λhid ρ=>
 PE.imp (F8 (ht hid ρ) (ha hid ρ) (hb hid ρ)) λσ H Q hq_=>by
  obtain⟨sr,d,hd,hq⟩:=hq_;unfold Lq at hd;cases e:p ρ with
  |none=>nofun
  |some x=>
   rw[e] at hd;refine⟨sr,x,e,λH1 s1=>?_⟩;have lf: ∀ {v H2},RK X.K k H1 H2 hid v d->RK X.K k H H2 hid v d:=λ{v H2} r=>RK.left s1 r
   cases x with
   |true=>exact GO ⟨sr.ext s1,d,hd,λv H2 s2 r=>hq v H2 (s1.trans s2) (lf r)⟩
   |false=>exact Ft ⟨sr.ext s1,d,hd,λv H2 s2 r=>hq v H2 (s1.trans s2) (lf r)⟩
end
section
variable {X:Cx}{c:Ct}{a b:Expr}{es:List Expr}{f:FE}{k:Kd}
def ai:FA:=λ_=>p5 []
def ae(f:FE)(a:FA):FA:=λρ=>(f ρ).bind λd=>(a ρ).map λr=>d::r
theorem rK(h:ae f fs ρ=p5 ds): ∃d r,f ρ=p5 d/\fs ρ=p5 r/\ds=d::r:=by
 unfold ae at h;cases e1:f ρ with
 |none=>nofun
 |some d=>
  cases e2:fs ρ with
  |none=>nofun
  |some r=>grind
theorem al:DA X c [] ai:=λhid ρ=>PA.imp bX λσ H Q ⟨b,d,a,q⟩=>by cases a;exact q [] H (ab.refl _) .nil
theorem ag(j:DP X c .s e f)(p:DA X c es fs)(i:Sv (e::es) X.env=(θ,eval e X.env)::Sv es X.env:=by rfl):DA X c (e::es) (ae f fs):=λhid ρ=>
 PA.imp (bn (j hid ρ) (p hid ρ) i) λσ H Q a=>by
  obtain⟨b,d,n,q⟩:=a;obtain⟨o,r,l,t,rfl⟩:=rK n;exact⟨b,o,l,λv w g m=>⟨b.ext g,r,t,λvs u h k=>q _ u (g.trans h) (.cons (Rep.mono (aH h) m) k)⟩⟩
def dz(a:FA):FE:=λρ=>(a ρ).bind λds=>if ds.length<=SC then p5 (.tup ds) else ξ
def bZ(a:FA):FE:=λρ=>(a ρ).bind λds=>if ds.length<=SC then p5 (.lst ds) else ξ
theorem Dt(h:dz fs ρ=p5 d): ∃ds,fs ρ=p5 ds/\ds.length<=SC/\d=.tup ds:=by
 unfold dz at h;cases e1:fs ρ with
 |none=>nofun
 |some ds=>
  nofun
theorem Do(h:bZ fs ρ=p5 d): ∃ds,fs ρ=p5 ds/\ds.length<=SC/\d=.lst ds:=by
 unfold bZ at h;cases e1:fs ρ with
 |none=>nofun
 |some ds=>
  nofun
theorem aM(h:H p=ξ)(o:HO):ab H (aV H p o):=λb u q=>by rw[az (bV q h)];exact q
theorem h9 {K:Sf}(b:H p=ξ)(a:hid p=θ)(r:Reps K (vw H hid) xs ds):Rep K (vw (aV H p (.tup xs)) hid) (.ref p) (.tup ds):=
 .tup (cc.mpr ⟨a,aA⟩) (r.mono (aH (aM b _)))
theorem gL {K:Sf}{hid:bv}(a:H p=ξ)(s:ab H0 H)(r:Reps K (vw H hid) xs ds):RN K H0 (aV H p (.lst xs)) hid (.ref p) (.lst ds):=
 ⟨p,xs,ds,rfl,rfl,s.free a,aA,by rw[vE a];exact r⟩
theorem cz {x1}(h:DA X c es fs):DP X c .s (.Tuple es x1 pos) (dz fs):=λhid ρ=>PE.imp (L9 (h hid ρ)) λσ H Q b=>by
 obtain⟨e,d,j,q⟩:=b;obtain⟨ds,i,hz,rfl⟩:=Dt j;exact⟨e,ds,i,λvs k f g=>⟨by rw[g.length];exact hz,λp a=>q _ _ (f.trans (aM a _)) (h9 a ((e.ext f).fresh a) g)⟩⟩
theorem cU(h:DA X c es fs):DP X c .n (.List es pos) (bZ fs):=λhid ρ=>PE.imp (Hz (h hid ρ)) λσ H Q a=>by
 obtain⟨g,d,j,q⟩:=a;obtain⟨ds,i,hz,rfl⟩:=Do j;exact⟨g,ds,i,λvs k b f=>⟨by rw[f.length];exact hz,λp e=>q _ _ (b.trans (aM e _)) (gL e b f)⟩⟩
abbrev d3(K:Sf)(H W:Hp):List V->List D->Prop:=Paired (dr K H W)
def Ry(K:Sf)(c:Ct)(hid:bv)(f:FA)(ρ:aC):TA:=λσ H Q=>SR K c hid ρ σ H/\ ∃d,f ρ=p5 d/\ ∀vs a,ab H a->d3 K a (vw a hid) vs d->Q vs a
def DB(X:Cx)(c:Ct)(es:List Expr)(f:FA):Prop:= ∀hid ρ,PA X es (Ry X.K c hid f ρ)
theorem aR:DB X c [] ai:=λhid ρ=>PA.imp bX λσ H Q ⟨b,d,a,q⟩=>by cases a;exact q [] H (ab.refl _) .nil
theorem aI(m:DP X c k e f)(w:DB X c es fs)(l:Sv (e::es) X.env=(θ,eval e X.env)::Sv es X.env:=by rfl):DB X c (e::es) (ae f fs):=λhid ρ=>
 PA.imp (bn (m hid ρ) (w hid ρ) l) λσ H Q h=>by
  obtain⟨g,d,t,q⟩:=h;obtain⟨u,r,p,x,rfl⟩:=rK t;exact⟨g,u,p,λv z i s=>⟨g.ext i,r,x,λvs y j o=>q _ y (i.trans j) (.cons ((RK.b k s λa n=>g.fresh n).ext j) o)⟩⟩
def ie(K:Sf)(k:Kd)(r:List V->Hp->VK->Prop)(F:List D->Option D):Prop:= ∀(H:Hp) (hid:bv) (vs:List V) (ds:List D) (d:D) (Q:VK),(∀a,H a=ξ->hid a=θ)->F ds=p5 d->d3 K H (vw H hid) vs ds->
 (∀w b,ab H b->RK K k H b hid w d->Q w b)->r vs H Q
def am(F:List D->Option D)(a:FA):FE:=λρ=>(a ρ).bind F
theorem kM(h:am F fs ρ=p5 d): ∃ds,fs ρ=p5 ds/\F ds=p5 d:=by
 unfold am at h;cases e1:fs ρ with
 |none=>nofun
 |some ds=>rw[e1] at h;exact⟨ds,rfl,h⟩
theorem N9(p:ie X.K k r F){H:Hp}(h:Me X.K c hid k (am F fs) ρ σ H Q):Qg r (Ry X.K c hid fs ρ) σ H Q:=by
 obtain⟨e,d,l,q⟩:=h;obtain⟨ds,i,o⟩:=kM l;exact⟨e,ds,i,λvs m b j=>p m hid vs ds d Q (λa n=>(e.ext b).fresh n) o j λw f s g=>q w f (b.trans s) (RK.left b g)⟩
variable {id:String}
theorem aP(m:dq X (.builtin id) r)(j:ie X.K k r F)(l:X.mg x=ξ)(f:DB X c (e::es) fs)(i:Gl X x:=by rfl)(hv:TN x=p5 (.builtin id):=by first|exact PySem.boot_len|rfl|kernel_rfl)(g:x≠"__name__":=by decide)(a:(x==("__debug__":Str))=false:=by decide)
 (d:Sv (e::es) X.env=(θ,eval e X.env)::Sv es X.env:=by rfl) (b:(Ue pos (Sv es X.env)).any (·.1)=false:=by rfl):DP X c k (.Call (.Name x p) (e::es) [] pos) (am F fs):=λhid ρ=>
 PE.imp (jB m i l hv (f hid ρ) g a d b) λσ H Q h=>N9 j h
theorem cx(l:dq X (.type T) r)(g:ie X.K k r F)(i:X.mg x=ξ)(m:DB X c (e::es) fs)(f:Gl X x:=by rfl)(hv:TN x=p5 (.type T):=by first|rfl|kernel_rfl)(d:x≠"__name__":=by decide)(a:(x==("__debug__":Str))=false:=by decide)
 (j:Sv (e::es) X.env=(θ,eval e X.env)::Sv es X.env:=by rfl) (b:(Ue pos (Sv es X.env)).any (·.1)=false:=by rfl):DP X c k (.Call (.Name x p) (e::es) [] pos) (am F fs):=λhid ρ=>
 PE.imp (dY l f i hv (m hid ρ) d a j b) λσ H Q h=>N9 g h
end
section
variable {K:Sf}
theorem d3.one(r:d3 K H W v [d]): ∃x,v=[x]/\dr K H W x d:=by
 cases r with
 |cons r t=>cases t;exact⟨_,rfl,r⟩
theorem d3.two(r:d3 K H W v [d,d']): ∃x y,v=[x,y]/\dr K H W x d/\dr K H W y d':=by
 cases r with
 |cons r t=>cases t with
  |cons a t=>cases t;lia
def cR:List D->Option D
 | [.lst ds]=>p5 (.int ds.length)
 | [.tup ds]=>p5 (.int ds.length)
 | [.scr ds]=>p5 (.int ds.length)
 |_=>ξ
theorem cH:ie K .s (λxs H Q=> ∃p ys,xs=[.ref p]/\(SqL K H p ys\/SqT K H p ys)/\Q (.int ys.length) H) cR:=by
 intro H hid vs ds d Q f h r q;unfold cR at h;split at h
 ·cases h;obtain⟨x,rfl,e⟩:=d3.one r;obtain⟨a,xs,rfl,b,c⟩:=e.lst;exact⟨a,xs,rfl,.inl b,by rw[c.length];exact q _ H (ab.refl _) .int⟩
 ·cases h;obtain⟨x,rfl,e⟩:=d3.one r;obtain⟨a,xs,rfl,_,b,c⟩:=e.tup;exact⟨a,xs,rfl,.inr b,by rw[c.length];exact q _ H (ab.refl _) .int⟩
 ·cases h;obtain⟨x,rfl,e⟩:=d3.one r;obtain⟨a,xs,rfl,b,c⟩:=e.scr;exact⟨a,xs,rfl,.inl b,by rw[c.length];exact q _ H (ab.refl _) .int⟩
 nofun
def zf:List D->Option D
 | [.int i]=>p5 (.int (if i<0 then -i else i))
 |_=>ξ
theorem Mn:ie K .s (λxs H Q=> ∃i,xs=[.int i]/\Q (.int (if i<0 then -i else i)) H) zf:=by
 intro H hid vs ds d Q b h r q;unfold zf at h;split at h
 ·cases h;obtain⟨x,rfl,a⟩:=d3.one r;cases a.int;exact⟨_,rfl,q _ H (ab.refl _) .int⟩
 nofun
def tM:List D->Option D
 | [.int i,.int j]=>p5 (.int (if j<i then j else i))
 |_=>ξ
theorem Jw:ie K .s (λxs H Q=> ∃i j,xs=[.int i,.int j]/\Q (.int (if j<i then j else i)) H) tM:=by
 intro H hid vs ds d Q c h r q;unfold tM at h;split at h
 ·cases h;obtain⟨x,y,rfl,a,b⟩:=d3.two r;cases a.int;cases b.int;exact⟨_,_,rfl,q _ H (ab.refl _) .int⟩
 nofun
def xN:List D->Option D
 | [.lst ds]=>p5 (.lst ds)
 | [.tup ds]=>p5 (.lst ds)
 |_=>ξ
theorem BL:ie K .n (λxs H Q=> ∃p ys,xs=[.ref p]/\(SqL K H p ys\/SqT K H p ys)/\ ∀l,H l=ξ->Q (.ref l) (aV H l (.lst ys))) xN:=by
 intro H hid vs ds d Q g h r q;unfold xN at h;split at h
 ·cases h;obtain⟨x,rfl,f⟩:=d3.one r;obtain⟨a,xs,rfl,c,e⟩:=f.lst;exact⟨a,xs,rfl,.inl c,λl b=>q _ _ (aM b _) (gL b (ab.refl _) e)⟩
 ·cases h;obtain⟨x,rfl,f⟩:=d3.one r;obtain⟨a,xs,rfl,_,c,e⟩:=f.tup;exact⟨a,xs,rfl,.inr c,λl b=>q _ _ (aM b _) (gL b (ab.refl _) e)⟩
 nofun
def iE:List D->Option D
 | [.lst ds]=>p5 (.tup ds)
 | [.tup ds]=>p5 (.tup ds)
 |_=>ξ
theorem jq:ie K .s (λxs H Q=> ∃p ys,xs=[.ref p]/\((SqL K H p ys/\ ∀l,H l=ξ->Q (.ref l) (aV H l (.tup ys)))\/(SqT K H p ys/\Q (.ref p) H))) iE:=by
 intro H hid vs ds d Q i h r q;unfold iE at h;split at h
 ·cases h;obtain⟨x,rfl,f⟩:=d3.one r;obtain⟨a,xs,rfl,b,e⟩:=f.lst;exact⟨a,xs,rfl,.inl ⟨b,λl c=>q _ _ (aM c _) (h9 c (i l c) e)⟩⟩
 ·cases h;obtain⟨x,rfl,f⟩:=d3.one r;obtain⟨a,xs,rfl,g,b,e⟩:=f.tup;exact⟨a,xs,rfl,.inr ⟨b,q _ H (ab.refl _) (.tup g e)⟩⟩
 nofun
def aY:D->D->Option D
 | .lst ds,.int i=>pi ds i
 | .tup ds,.int i=>pi ds i
 | .scr ds,.int i=>pi ds i
 |_,_=>ξ
theorem vb(r:Reps K F xs ds)(h:pi ds i=p5 d): ∃x,pi xs i=p5 x/\Rep K F x d:=by
 unfold pi at h⊢;rw[r.length];cases e:vO ds.length i with
 |none=>nofun
 |some j=>
  rw[e] at h;obtain⟨x,a,b⟩:=r.get (i:=j) h;exact⟨x,a,b⟩
theorem aJ:rR K .s (RH K) aY:=by
 intro H hid v u x y d Q j h i g q;unfold aY at h;split at h
 ·cases g.int;obtain⟨a,xs,rfl,b,f⟩:=i.lst;obtain⟨z,c,e⟩:=vb f h;exact .inl ⟨a,xs,_,z,rfl,rfl,b,c,q _ H (ab.refl _) e⟩
 ·cases g.int;obtain⟨a,xs,rfl,_,b,f⟩:=i.tup;obtain⟨z,c,e⟩:=vb f h;exact .inr (.inl ⟨a,xs,_,z,rfl,rfl,b,c,q _ H (ab.refl _) e⟩)
 ·cases g.int;obtain⟨a,xs,rfl,b,f⟩:=i.scr;obtain⟨z,c,e⟩:=vb f h;exact .inl ⟨a,xs,_,z,rfl,rfl,b,c,q _ H (ab.refl _) e⟩
 nofun
end
abbrev GE:=aC->Option (D×aC)
abbrev GA:=aC->Option (List D×aC)
def lT(hid:bv)(H a:Hp):Prop:= ∀b o,H b=p5 o->hid b=θ->a b=p5 o
theorem lT.of(s:ab H H'):lT hid H H':=λb o q _=>s b o q
theorem lT.trans(a:lT hid H H1)(b:lT hid H1 H2):lT hid H H2:=λc o q h=>b c o (a c o q h) h
theorem lT.vw(a:lT hid H H'):ab (vw H hid) (vw H' hid):=AR a
def kn(K:Sf)(c:Ct)(hid:bv)(k:Kd)(ρ':aC)(σ:St)(H b:Hp)(v:V)(d:D):Prop:=lT hid H b/\match k with
 | .n=> ∃a xs ds,d=.lst ds/\v=.ref a/\H a=ξ/\b a=p5 (.lst xs)/\c.H₀ a=ξ/\hid a=θ/\SR K c (bI hid a) ρ' σ b/\Reps K (vw b (bI hid a)) xs ds/\ ∀i:Nat,Ow ρ'[i]? ->σ[i]? ≠p5 (p5 (.ref a))
 |_=>SR K c hid ρ' σ b/\Rep K (vw b hid) v d
def P6(K:Sf)(c:Ct)(hid:bv)(k:Kd)(f:GE)(ρ:aC):TE:=λσ H Q=>SR K c hid ρ σ H/\ ∃d ρ',f ρ=p5 (d,ρ')/\ ∀v a,kn K c hid k ρ' σ H a v d->Q v a
def DE(X:Cx)(c:Ct)(k:Kd)(e:Expr)(f:GE):Prop:= ∀hid ρ,PE X e (P6 X.K c hid k f ρ)
def pu(f:FE):GE:=λρ=>(f ρ).map λd=>(d,ρ)
theorem J5{ρ ρ':aC}(h:pu f ρ=p5 (d,ρ')):f ρ=p5 d/\ρ'=ρ:=by
 unfold pu at h;cases e:f ρ with
 |none=>nofun
 |some x=>grind
section
variable {K:Sf}{c:Ct}{σ:St}{H:Hp}{i:Nat}
theorem cB {hid:bv}{a b:Addr}(h:hid b=ζ):bI hid a b=true:=by unfold bI;rw[h];rfl
theorem cQ {hid:bv}{a:Addr}:bI hid a a=true:=by simp[bI]
theorem SR.hide(h:SR K c hid ρ σ H)(e:ab H H')(n:H a=ξ)(A:H' a=p5 o)(y: ∀xs,o≠ .tup xs:=by intro _ e;cases e):SR K c (bI hid a) ρ σ H':=by
 have l:ab (vw H hid) (vw H' (bI hid a)):=λb o q=>by
  obtain⟨w,u⟩:=cc.mp q;refine cc.mpr ⟨?_,e _ _ u⟩;unfold bI;grind
 refine⟨λb k=>?_,λb xs k q=>by
  by_cases p:b=a
  ·nofun
  ·unfold bI at k
   exact(h.ext e).ht b xs (by simpa [p] using k) q,λb q=>cB (h.h0 b q),(h.ext e).kp,(h.ext e).t0,h.c0,h.m0,h.len,λi s q=>?_,h.ap⟩
 ·by_cases p:b=a
  ·nofun
  ·unfold bI at k;have:hid b=true:=by simpa [p] using k
   obtain⟨o',q⟩:=h.tr b this;exact⟨o',e _ _ q⟩
 ·have z:=h.sl i s q;cases s with
  |no=>trivial
  |v d=>obtain⟨x,f,g⟩:=z;exact⟨x,f,g.mono l⟩
  |own ds=>obtain⟨j,xs,f,g,r,t,m⟩:=z;exact⟨j,xs,f,e _ _ g,cB r,t,m.mono l⟩
  |arg ds=>obtain⟨j,xs,f,g,r,t,m⟩:=z;exact⟨j,xs,f,e _ _ g,cB r,t,m.mono l⟩
  |ob b=>obtain⟨j,f,g⟩:=z;exact⟨j,f,g.mono (λ_ x _=>e x) l λ_ _ _=>cB⟩
theorem SR.show (h:SR K c (bI hid a) ρ σ H)(w: ∀b,c.hid₀ b=ζ->hid b=ζ)(no: ∀i:Nat,Ow ρ[i]? ->σ[i]? ≠p5 (p5 (.ref a)))(y:H a=p5 o)(C: ∀p u,o≠ .nst p u:=by intro _ _ e;cases e):SR K c hid ρ σ H:=by
 have l:ab (vw H (bI hid a)) (vw H hid):=ft λb q=>cB q
 have t: ∀b,b≠a->bI hid a b=ζ->hid b=true:=λb D k=>by grind[bI]
 refine⟨λb k=>h.tr b (cB k),λb xs k=>h.ht b xs (cB k),w,h.kp,h.t0,h.c0,h.m0,h.len,λi s q=>?_,h.ap⟩;have z:=h.sl i s q;cases s with
 |no=>trivial
 |v d=>obtain⟨x,f,j⟩:=z;exact⟨x,f,j.mono l⟩
 |own ds=>
  obtain⟨g,xs,f,j,m,n,r⟩:=z;have:g≠a:=λe=>by subst e;exact no i (by rw[q];trivial) f
  exact⟨g,xs,f,j,t g this m,n,r.mono l⟩
 |arg ds=>
  obtain⟨g,xs,f,j,m,n,r⟩:=z;have:g≠a:=λe=>by subst e;exact no i (by rw[q];trivial) f
  exact⟨g,xs,f,j,t g this m,n,r.mono l⟩
 |ob b=>
  obtain⟨g,f,j⟩:=z;exact⟨g,f,j.mono (λ_ _ _ _ q=>q) l λA x B=>t x (B.ne (λe=>by subst e;exact no i (by rw[q];exact A) f) y C)⟩
theorem SR.notOw(h:SR K c hid ρ σ H)(n:hid a=θ)(i:Nat)(o:Ow ρ[i]?):σ[i]? ≠p5 (p5 (.ref a)):=λe=>by
 cases q:ρ[i]? with
 |none=>rw[q] at o;exact o
 |some s=>
  rw[q] at o;have z:=h.sl i s q;cases s with
  |no=>exact o
  |v d=>exact o
  |own ds=>obtain⟨j,xs,f,g,k,_⟩:=z;nofun
  |arg ds=>obtain⟨j,xs,f,g,k,_⟩:=z;nofun
  |ob b=>obtain⟨j,f,g⟩:=z;rw[e] at f;cases f;have:=g.hid o;nofun
theorem SR.post {k:Kd}(h:SR K c hid ρ σ H)(e:ab H H')(r:RK K k H H' hid v d)(j:k≠ .b):kn K c hid k ρ σ H H' v d:=by
 cases k with
 |b=>exact absurd rfl j
 |s=>exact⟨.of e,h.ext e,r⟩
 |n=>
  obtain⟨a,xs,ds,i,l,f,g,m⟩:=r;exact⟨.of e,a,xs,ds,i,l,f,g,h.fresh0 f,h.fresh f,h.hide e f g,m,h.notOw (h.fresh f)⟩
theorem kn.left(s:lT hid H H1)(p:kn K c hid k ρ' σ H1 H' v d):kn K c hid k ρ' σ H H' v d:=by
 cases k with
 |b=>exact⟨s.trans p.1,p.2⟩
 |s=>exact⟨s.trans p.1,p.2⟩
 |n=>
  obtain⟨q,a,xs,ds,g,l,i,m,h,f,j⟩:=p;refine⟨s.trans q,a,xs,ds,g,l,?_,m,h,f,j⟩;cases e:H a with
  |none=>rfl
  |some o=>rw[s a o e f] at i;omega
theorem kn.toS(h: ∀b,c.hid₀ b=ζ->hid b=ζ)(p:kn K c hid .n ρ' σ H H' v d):kn K c hid .s ρ' σ H H' v d:=by
 obtain⟨k,a,xs,ds,rfl,rfl,l,e,m,j,g,f,i⟩:=p;exact⟨k,g.show h i e,.lst (cc.mpr ⟨j,e⟩) (f.mono (ft λb q=>cB q))⟩
end
section
variable {X:Cx}{c:Ct}{a:Expr}{es:List Expr}{f g:GE}
theorem DP.ef {f:FE}(h:DP X c k e f)(m:k≠ .b:=by decide):DE X c k e (pu f):=λhid ρ=>PE.imp (h hid ρ) λσ H Q a=>by
 obtain⟨g,d,ρ',l,q⟩:=a;obtain⟨i,rfl⟩:=J5 l;exact⟨g,d,i,λv j s r=>q v j (g.post s r m)⟩
theorem DE.toS(h:DE X c .n e f):DE X c .s e f:=λhid ρ=>PE.imp (h hid ρ) λσ H Q ⟨a,d,ρ',g,q⟩=>⟨a,d,ρ',g,λv b p=>q v b (p.toS a.h0)⟩
def bE {α:Type}(f:GE)(g:D->aC->Option α):aC->Option α:=λρ=>(f ρ).bind λp=>g p.1 p.2
theorem v0 {α:Type}{g:D->aC->Option α}{ρ:aC}{z:α}(h:bE f g ρ=p5 z): ∃d ρ',f ρ=p5 (d,ρ')/\g d ρ'=p5 z:=by
 unfold bE at h;cases e:f ρ with
 |none=>nofun
 |some p=>rw[e] at h;exact⟨p.1,p.2,rfl,h⟩
def pR(F:D->D->Option D)(f g:GE):GE:=bE f λx=>bE g λy ρ=>(F x y).map λd=>(d,ρ)
theorem CS{ρ ρ':aC}(h:pR F f g ρ=p5 (d,ρ')): ∃x ρ1 y,f ρ=p5 (x,ρ1)/\g ρ1=p5 (y,ρ')/\F x y=p5 d:=by
 obtain⟨x,ρ1,c,b⟩:=v0 h;obtain⟨y,ρ2,i,a⟩:=v0 b;cases e:F x y with
 |none=>nofun
 |some z=>rw[e] at a;grind
theorem Qt(J:rR X.K k r F)(E:k≠ .b){H:Hp}(h:P6 X.K c hid k (pR F f g) ρ σ H Q):NG r (P6 X.K c hid .s f ρ) (λσ H Q=> ∃ρ1,P6 X.K c hid .s g ρ1 σ H Q) σ H Q:=by
 obtain⟨j,d,ρ',C,q⟩:=h;obtain⟨x,ρ1,y,A,G,D⟩:=CS C;refine⟨j,x,ρ1,A,λv L ⟨o,p,B⟩=>⟨ρ1,p,y,ρ',G,λu I ⟨e,i,z⟩=>?_⟩⟩;exact J I hid v u x y d Q (λa n=>i.fresh n) D (.inl (B.mono e.vw)) (.inl z) λw l m t=>q w l (kn.left (o.trans e) (i.post m t E))
theorem ny {α:Type}{t:α->TE}(h: ∀z,PE X e (t z)):PE X e (λσ H Q=> ∃z,t z σ H Q):=λa s σ H Q I ⟨z,q⟩=>h z a s σ H Q I q
theorem OV(l:kK X (U9 op) r)(j:rR X.K k r F)(i:DE X c .s a f)(d:DE X c .s b g)(e:k≠ .b:=by decide):DE X c k (.BinOp a op b pos) (pR F f g):=λhid ρ=>
 PE.imp (AE l (i hid ρ) (ny λρ1=>d hid ρ1)) λσ H Q h=>Qt j e h
def RX(K:Sf)(c:Ct)(hid:bv)(f:GA)(ρ:aC):TA:=λσ H Q=>SR K c hid ρ σ H/\ ∃d ρ',f ρ=p5 (d,ρ')/\ ∀vs a,lT hid H a->SR K c hid ρ' σ a->Reps K (vw a hid) vs d->Q vs a
def DG(X:Cx)(c:Ct)(es:List Expr)(f:GA):Prop:= ∀hid ρ,PA X es (RX X.K c hid f ρ)
def cV(f:FA):GA:=λρ=>(f ρ).map λd=>(d,ρ)
theorem xC {f:FA}{ρ ρ':aC}(h:cV f ρ=p5 (d,ρ')):f ρ=p5 d/\ρ'=ρ:=by
 unfold cV at h;cases e:f ρ with
 |none=>nofun
 |some x=>grind
theorem DA.gf {f:FA}(h:DA X c es f):DG X c es (cV f):=λhid ρ=>PA.imp (h hid ρ) λσ H Q a=>by
 obtain⟨b,d,ρ',i,q⟩:=a;obtain⟨e,rfl⟩:=xC i;exact⟨b,d,e,λv g s r=>q v g (.of s) (b.ext s) r⟩
def iO(f:GE)(a:GA):GA:=bE f λd ρ=>(a ρ).map λp=>(d::p.1,p.2)
theorem Oi {α:Type}{t:α->TA}(h: ∀z,PA X es (t z)):PA X es (λσ H Q=> ∃z,t z σ H Q):=λp a s σ H Q I ⟨z,q⟩=>h z p a s σ H Q I q
theorem Bw(l:DE X c .s e f)(u:DG X c es fs)(k:Sv (e::es) X.env=(θ,eval e X.env)::Sv es X.env:=by rfl):DG X c (e::es) (iO f fs):=λhid ρ=>
 PA.imp (bn (l hid ρ) (Oi λρ1=>u hid ρ1) k) λσ H Q a=>by
  obtain⟨h,d,ρ',r,q⟩:=a;obtain⟨t,ρ1,n,g⟩:=v0 r;cases e2:fs ρ1 with
  |none=>nofun
  |some p=>
   rw[e2] at g;obtain⟨ds,ρ2⟩:=p;cases g;exact⟨h,t,ρ1,n,λv y ⟨i,j,o⟩=>⟨ρ1,j,ds,_,e2,λvs w b x m=>q _ w (i.trans b) x (.cons (o.mono b.vw) m)⟩⟩
end
def spP(K:Sf)(k:Kd)(n:Nat)(P:List D->Option D):Sp:=λvs H Q _=> ∃hid ds,PR hid H/\Reps K (vw H hid) vs ds/\ds.length=n/\ ∃d,P ds=p5 d/\ ∀v a,ab H a->RK K k H a hid v d->Q v a
def Og(K:Sf)(k:Kd)(hid:bv)(H a:Hp)(v:V)(d:D)(b:List V)(c:List D):Prop:=match k with
 | .n=> ∃p ys es,d=.lst es/\v=.ref p/\H p=ξ/\a p=p5 (.lst ys)/\Reps K (vw a (bI hid p)) ys es/\Reps K (vw a (bI hid p)) b c
 |_=>Rep K (vw a hid) v d/\Reps K (vw a hid) b c
def spE(K:Sf)(k:Kd)(n:Nat)(M:List D->List D->Option (D×List D)):Sp:=λvs H Q _=> ∃hid a xs bs us ds,vs=.ref a::us/\PR hid H/\hid a=ζ/\H a=p5 (.lst xs)/\Reps K (vw H hid) xs bs/\
 Reps K (vw H hid) us ds/\ds.length=n/\ ∃d e,M bs ds=p5 (d,e)/\ ∀v f c,(∀b o,H b=p5 o->b≠a->f b=p5 o)->f a=p5 (.lst c)->Og K k hid H f v d c e->Q v f
section
variable {X:Cx}{c:Ct}{a b:Expr}{n:Nat}
theorem IW(F:ju X.prog X.w X.K X.mg X.base wZ j f fd ps (spP X.K k n P))(G:er j X.A)(s:X.mg x=p5 (.ref f))(D:Yb X.K (.ref f)=ζ)(C:nT X.K fd ps [])
 (o:DA X c (e::es) fs) (r:Gl X x:=by rfl) (g:(x==("__debug__":Str))=false:=by decide) (B:Sv (e::es) X.env=(θ,eval e X.env)::Sv es X.env:=by rfl) (h:(Ue pos (Sv es X.env)).any (·.1)=false:=by rfl):
 DP X c k (.Call (.Name x p) (e::es) [] pos) (am (λds=>if ds.length=n then P ds else ξ) fs):=λhid ρ=>
 PE.imp (vx F G r s D C .nil (GB (X:=X)) (o hid ρ) g B h) λσ H Q i=>by
  obtain⟨l,d,z,q⟩:=i;obtain⟨ds,u,I⟩:=kM z;have a:(if ds.length=n then P ds else ξ)=p5 d:=I;split at a
  ·refine⟨l,ds,u,λvs E b y=>?_⟩;show spP X.K k n P (vs++[]) E Q E0;rw[TZ];exact⟨hid,ds,(l.ext b).trk,y, ‹_›,d,a,λv m J t=>q v m (b.trans J) (RK.left b t)⟩
  nofun
def fO(i:Nat)(bs:List D)(ρ:aC):aC:=match ρ[i]? with
 |some (.own _)=>ρ.set i (.own bs)
 |some (.arg _)=>ρ.set i (.arg bs)
 |_=>ρ
def gm(i:Nat)(ρ:aC):Option (List D):=match ρ[i]? with
 |some (.own ds)=>p5 ds
 |some (.arg ds)=>p5 ds
 |_=>ξ
theorem ii(h:gm i ρ=p5 bs):ρ[i]? =p5 (.own bs)\/ρ[i]? =p5 (.arg bs):=by
 grind[gm]
theorem SR.held {K:Sf}{hid:bv}{σ:St}(h:SR K c hid ρ σ H)(k:gm i ρ=p5 bs): ∃a xs,σ[i]? =p5 (p5 (.ref a))/\H a=p5 (.lst xs)/\hid a=ζ/\Reps K (vw H hid) xs bs/\(c.mu a=ζ\/c.H₀ a=ξ):=by
 rcases ii k with e|e
 ·obtain⟨a,xs,b,g,d,f,j⟩:=h.sl i _ e;exact⟨a,xs,b,g,d,j,.inr f⟩
 ·obtain⟨a,xs,b,g,d,f,j⟩:=h.sl i _ e;exact⟨a,xs,b,g,d,j,.inl f⟩
theorem j3 {i j:Nat}(h:j≠i):(fO i bs ρ)[j]? =ρ[j]? :=by
 unfold fO;split
 ·grind
 ·rw[SD (S9 h)]
 ·rfl
theorem Hk{ρ:aC}:(fO i bs ρ).length=ρ.length:=by
 unfold fO;split
 ·simp
 ·simp
 ·rfl
theorem vj {i j:Nat}(h:Ow (fO i bs ρ)[j]?):Ow ρ[j]? :=by
 by_cases e:j=i
 ·subst e;unfold fO at h;split at h
  ·rw[‹ρ[j]? =_›];trivial
  ·rw[‹ρ[j]? =_›];trivial
  omega
 ·rw[j3 e] at h;exact h
theorem SR.put {K:Sf}{hid:bv}{ρ:aC}{σ:St}{H H':Hp}{i:Nat}{bs bs':List D}{a:Addr}{xs':List V}(h:SR K c hid ρ σ H)(hg:gm i ρ=p5 bs)(ha:σ[i]? =p5 (p5 (.ref a)))(kp: ∀b o,H b=p5 o->b≠a->H' b=p5 o)
 (hx:H' a=p5 (.lst xs')) (r:Reps K (vw H' hid) xs' bs'):SR K c hid (fO i bs' ρ) σ H':=by
 obtain⟨a1,xs,h1,h2,h3,h4,h5⟩:=h.held hg;rw[ha] at h1;cases h1;have sm:ab (vw H hid) (vw H' hid):=AR λb o q hb=>kp b o q (λe=>by nofun)
 have tr': ∀b o,H b=p5 o-> ∃o',H' b=p5 o':=λb o q=>by
  grind[kp]
 refine⟨λb hb=>let⟨o,q⟩:=h.tr b hb;tr' b o q,λb xs hb q=>by
  by_cases e:b=a
  ·nofun
  ·obtain⟨o,w⟩:=h.tr b hb;have z:=kp b o w e
   rw[q] at z;cases z;exact h.ht b xs hb w,h.h0,λb o q m=>?_,λb o q=>let⟨o',q'⟩:=h.t0 b o q;tr' b o' q',h.c0,h.m0,by rw[Hk];exact h.len,λj s q=>?_,λj l z n o1 o2=>h.ap j l z n (vj o1) (vj o2)⟩
 ·refine kp b o (h.kp b o q m) λe=>?_
  nofun
 ·by_cases e:j=i
  ·subst e;rcases ii hg with w|w
   ·have lt:=(Sz.mp w).1;unfold fO at q;rw[w] at q;dsimp only at q;rw[SX lt] at q;cases q;obtain⟨a2,xs2,g1,g2,g3,g4,g5⟩:=h.sl j _ w;rw[ha] at g1;cases g1;exact⟨_,xs',ha,hx,g3,g4,r⟩
   ·have lt:=(Sz.mp w).1;unfold fO at q;rw[w] at q;dsimp only at q;rw[SX lt] at q;cases q;obtain⟨a2,xs2,g1,g2,g3,g4,g5⟩:=h.sl j _ w;rw[ha] at g1;cases g1;exact⟨_,xs',ha,hx,g3,g4,r⟩
  ·rw[j3 e] at q;have z:=h.sl j s q;cases s with
   |no=>trivial
   |v d=>obtain⟨x,h1,h2⟩:=z;exact⟨x,h1,h2.mono sm⟩
   |own ds=>
    obtain⟨a',xs,z1,z2,z3,z4,z5⟩:=z;have ne:a'≠a:=λe'=>by
     subst e';refine h.ap j i a' e (by rw[q];trivial) ?_ z1 ha;rcases ii hg with w|w<;>rw[w]<;>trivial
    exact⟨a',xs,z1,kp _ _ z2 ne,z3,z4,z5.mono sm⟩
   |arg ds=>
    obtain⟨a',xs,z1,z2,z3,z4,z5⟩:=z;have ne:a'≠a:=λe'=>by
     subst e';refine h.ap j i a' e (by rw[q];trivial) ?_ z1 ha;rcases ii hg with w|w<;>rw[w]<;>trivial
    exact⟨a',xs,z1,kp _ _ z2 ne,z3,z4,z5.mono sm⟩
   |ob b=>
    obtain⟨a',z1,z2⟩:=z;refine⟨a',z1,z2.mono (λow x hx o w=>kp _ _ w (hx.ne (λe'=>?_) h2)) sm λ_ _ _ w=>w⟩;subst e';refine h.ap j i a' e (by rw[q];exact ow) ?_ z1 ha;rcases ii hg with w|w<;>rw[w]<;>trivial
def a9(i n:Nat)(M:List D->List D->Option (D×List D))(b:GA):GE:=λρ=>match gm i ρ with
 |none=>ξ
 |some _=>match b ρ with
  |none=>ξ
  |some (ds,ρ1)=>match gm i ρ1 with
   |none=>ξ
   |some bs=>if ds.length=n then match M bs ds with
     |none=>ξ
     |some (d,a)=>p5 (d,fO i a ρ1) else ξ
theorem qo{ρ ρ':aC}{d:D}(h:a9 i n M fs ρ=p5 (d,ρ')): ∃b ds ρ1 bs a,gm i ρ=p5 b/\fs ρ=p5 (ds,ρ1)/\gm i ρ1=p5 bs/\ds.length=n/\M bs ds=p5 (d,a)/\ρ'=fO i a ρ1:=by
 unfold a9 at h;split at h
 ·nofun
 ·split at h
  ·nofun
  grind
theorem Fb(i:Nat)(F:ju X.prog X.w X.K X.mg X.base wZ j f fd ps (spE X.K k n M))(hr:er j X.A)(S:X.mg x=p5 (.ref f))(hk:Yb X.K (.ref f)=ζ)(L:nT X.K fd ps [])
 (ha:DG X c es fs) (Y:k≠ .b:=by decide) (hN:X.N[i]? =p5 y:=by rfl) (hv:oe X.env.scope y:=by first|exact TJ rfl|exact Ta (TJ rfl)|exact Ta (Ta rfl)) (hd:(y==("__debug__":Str))=false:=by decide)
 (I:(y==("__classdict__":Str))=false:=by decide) (Z:Sv (.Name y py::es) X.env=(θ,eval (.Name y py) X.env)::Sv es X.env:=by rfl) (hg:Gl X x:=by rfl) (V:(x==("__debug__":Str))=false:=by decide) (J:(Ue pos (Sv es X.env)).any (·.1)=false:=by rfl):
 DE X c k (.Call (.Name x p) (.Name y py::es) [] pos) (a9 i n M fs):=λhid ρ=>
 PE.imp (vx F hr hg S hk L .nil (GB (X:=X)) (bn (pv i hN hv hd I) (ha hid ρ) Z) V Z J) λσ H Q O=>by
  obtain⟨sr,d,ρ',T,q⟩:=O;obtain⟨bs0,ds,ρ1,bs,r,e0,e1,W,e3,e4,rfl⟩:=qo T;obtain⟨a,xs0,B,_,a3,_,_⟩:=sr.held e0;refine⟨.ref a,B,sr,ds,ρ1,e1,λus C R h r1=>?_⟩;obtain⟨a',xs,b1,b2,b3,b4,b5⟩:=h.held W;rw[B] at b1;cases b1;show spE X.K k n M ((.ref a::us)++[]) C Q E0;rw[TZ];refine⟨hid,a,xs,bs,us,ds,rfl,h.trk,b3,b2,b4,r1,e3,d,r,e4,λv D xs' kp hx l=>q v D ?_⟩;have t:lT hid C D:=λb o q L=>kp b o q λe=>by nofun
  cases k with
  |b=>exact absurd rfl Y
  |s=>exact⟨R.trans t,h.put W B kp hx l.2,l.1⟩
  |n=>
   obtain⟨g,ys,G,rfl,rfl,u,h2,h3,h4⟩:=l;have P:hid g=false:=h.fresh u;have na:a≠g:=λe=>by nofun
   have sB:SR X.K c (bI hid g) ρ1 σ (aV C g (.lst ys)):=h.hide (aM u _) u aA;have U: ∀b o,(aV C g (.lst ys)) b=p5 o->b≠a->D b=p5 o:=λb o z L=>by
    grind[aA,az]
   have sC:SR X.K c (bI hid g) (fO i r ρ1) σ D:=sB.put W B U hx h4;have hn:H g=none:=by
    cases e:H g with
    |none=>rfl
    |some o=>rw[R g o e P] at u;omega
   refine⟨R.trans t,g,ys,G,rfl,rfl,hn,h2,h.fresh0 u,P,sC,h3,λm S E=>?_⟩;have:=h.notOw P m (vj S);exact this E
end
inductive Out where
 |nx (ρ:aC)|rt (d:D) (ρ:aC)|bk (ρ:aC)|ct (ρ:aC)|no
abbrev FS:=aC->Out
def QY(c:Ct)(k:Kd)(v:V):bv:=match k,v with
 | .n,.ref a=>bI c.hid₀ a
 |_,_=>c.hid₀
structure Ret(K:Sf)(c:Ct)(k:Kd)(ρ':aC)(H':Hp)(v:V)(d:D):Prop where
 kp: ∀b o,c.H₀ b=p5 o->c.mu b=θ->H' b=p5 o
 val:match k with
  | .n=> ∃a xs ds,d=.lst ds/\v=.ref a/\c.H₀ a=ξ/\H' a=p5 (.lst xs)/\Reps K (vw H' (bI c.hid₀ a)) xs ds
  |_=>Rep K (vw H' c.hid₀) v d
 arg: ∀(i:Nat) (bs:List D),ρ'[i]? =p5 (Sl.arg bs)-> ∃a xs,c.mu a=ζ/\H' a=p5 (.lst xs)/\Reps K (vw H' (QY c k v)) xs bs
def el(K:Sf)(c:Ct)(k:Kd)(D:ue)(W:Hp):Out->Prop
 | .nx ρ'=> ∀b e a,SR K c a ρ' b e->ab W (vw e a)->D.nx b e
 | .rt d ρ'=> ∀v e,Ret K c k ρ' e v d->D.rt v e
 | .bk ρ'=> ∀b e a,SR K c a ρ' b e->ab W (vw e a)->D.bk b e
 | .ct ρ'=> ∀b e a,SR K c a ρ' b e->ab W (vw e a)->D.ct b e
 | .no=>False
theorem el.mono {K:Sf}{D:ue}(h:el K c k D W o)(s:ab W W'):el K c k D W' o:=by
 cases o with
 |nx ρ=>exact λb e a z w=>h b e a z (s.trans w)
 |rt d ρ=>exact h
 |bk ρ=>exact λb e a z w=>h b e a z (s.trans w)
 |ct ρ=>exact λb e a z w=>h b e a z (s.trans w)
 |no=>exact h
def Rx(K:Sf)(c:Ct)(k:Kd)(t:FS)(ρ:aC):TS:=λD σ H=> ∃hid,SR K c hid ρ σ H/\el K c k D (vw H hid) (t ρ)
def DS(X:Cx)(c:Ct)(k:Kd)(st:Stmt)(t:FS):Prop:= ∀ρ,PS X st (Rx X.K c k t ρ)
def AI(X:Cx)(c:Ct)(k:Kd)(st:List Stmt)(t:FS):Prop:= ∀ρ,PSs X st (Rx X.K c k t ρ)
section
variable {X:Cx}{c:Ct}{st:Stmt}{t u:FS}
theorem EU {α:Type}{t:α->TS}(h: ∀z,PSs X sts (t z)):PSs X sts (λD σ H=> ∃z,t z D σ H):=λa s σ H D I ⟨z,q⟩=>h z a s σ H D I q
theorem P0 {α:Type}{t:α->TT}(h: ∀z,PT X e (t z)):PT X e (λD σ H=> ∃z,t z D σ H):=λa s σ H D I ⟨z,q⟩=>h z a s σ H D I q
def dc:FS:=λρ=>.nx ρ
def aF(t u:FS):FS:=λρ=>match t ρ with
 | .nx ρ'=>u ρ'
 | .rt d ρ'=>.rt d ρ'
 | .bk ρ'=>.bk ρ'
 | .ct ρ'=>.ct ρ'
 | .no=>.no
theorem bL:AI X c k [] dc:=λρ=>PSs.imp Iz λD σ H ⟨hid,a,q⟩=>q σ H hid a (ab.refl _)
theorem ao(h:DS X c k st t):AI X c k [st] t:=λρ=>Ix (h ρ)
theorem aj(h:DS X c k st t)(j:AI X c k rest u):AI X c k (st::rest) (aF t u):=λρ=>
 PSs.imp (Ev (h ρ) (EU λρ1=>j ρ1)) λD σ H f=>by
  obtain⟨hid,g,q⟩:=f;refine⟨hid,g,?_⟩;unfold aF at q;cases e:t ρ with
  |nx ρ1=>rw[e] at q;exact λi m a b l=>⟨ρ1,a,b,el.mono q l⟩
  |rt d ρ1=>rw[e] at q;exact q
  |bk ρ1=>rw[e] at q;exact q
  |ct ρ1=>rw[e] at q;exact q
  |no=>rw[e] at q;exact q
def fL(p:FT)(t u:FS):FS:=λρ=>match p ρ with
 |some true=>t ρ
 |some false=>u ρ
 |none=>.no
theorem du {p:FT}{a b:List Stmt}(hp:DT X c e p)(ha:AI X c k a t)(hb:AI X c k b u):DS X c k (.If e a b pos) (fL p t u):=λρ=>
 PS.imp (PK (P0 λhid=>hp hid ρ) (ha ρ) (hb ρ)) λD σ H hq_=>by
  obtain⟨hid,sr,q⟩:=hq_;cases e1:p ρ with
  |none=>unfold fL at q;rw[e1] at q;exact q.elim
  |some x=>
   refine⟨hid,sr,x,e1,λH1 s1=>?_⟩;unfold fL at q;rw[e1] at q;cases x with
   |true=>exact GO ⟨hid,sr.ext s1,el.mono q (aH s1)⟩
   |false=>exact Ft ⟨hid,sr.ext s1,el.mono q (aH s1)⟩
def bH(f:FE):FS:=λρ=>match f ρ with
 |some d=>.rt d ρ
 |none=>.no
theorem Lj {K:Sf}{H g:Hp}(w:k≠ .b)(p:kn K c hid k ρ' σ H g v d)(B: ∀b,c.hid₀ b=ζ->hid b=ζ):Ret K c k ρ' g v d:=by
 cases k with
 |b=>exact absurd rfl w
 |s=>
  obtain⟨_,f,r⟩:=p;refine⟨f.kp,r.mono (ft f.h0),λi bs e=>?_⟩;obtain⟨a,xs,y,l,x,h,m⟩:=f.sl i _ e;refine⟨a,xs,h,l,?_⟩;show Reps K (vw g c.hid₀) xs bs;exact m.mono (ft f.h0)
 |n=>
  obtain⟨_,a,xs,ds,rfl,rfl,_,t,z,D,f,A,C⟩:=p;have o:ab (vw g (bI hid a)) (vw g (bI c.hid₀ a)):=ft λb q=>by
   unfold bI at q⊢;grind
  refine⟨f.kp,⟨a,xs,ds,rfl,rfl,z,t,A.mono o⟩,λi bs e=>?_⟩;obtain⟨u,j,y,l,x,h,m⟩:=f.sl i _ e;exact⟨u,j,h,l,m.mono o⟩
theorem aL(i:DP X c k e f)(g:k≠ .b:=by decide):DS X c k (.Return (p5 e) pos) (bH f):=λρ=>PS.imp (Fo (ny λhid=>i hid ρ)) λD σ H d=>by
 obtain⟨hid,a,q⟩:=d;unfold bH at q;cases e1:f ρ with
 |none=>rw[e1] at q;exact q.elim
 |some z=>rw[e1] at q;exact⟨hid,a,_,e1,λv h s r=>q v h (Lj g (a.post s r g) a.h0)⟩
def zL:Option Sl->Option (List D)
 |some (.own ds)=>p5 ds
 |_=>ξ
def zI(i:Nat):FS:=λρ=>match zL ρ[i]? with
 |some ds=>.rt (.lst ds) ρ
 |none=>.no
theorem tm(h:zL o=p5 ds):o=p5 (.own ds):=by
 unfold zL at h;grind
theorem pJ(i:Nat)(l:X.N[i]? =p5 x:=by rfl)(hv:oe X.env.scope x:=by first|exact TJ rfl|exact Ta (TJ rfl)|exact Ta (Ta rfl))(t:(x==("__debug__":Str))=false:=by decide)
 (g:(x==("__classdict__":Str))=false:=by decide):DS X c .n (.Return (p5 (.Name x pos')) pos) (zI i):=λρ=>PS.imp (Fo (pv i l hv t g)) λD σ H h=>by
 obtain⟨hid,d,q⟩:=h;unfold zI at q;cases e0:zL ρ[i]? with
 |none=>rw[e0] at q;exact q.elim
 |some ds=>
  rw[e0] at q;have e:=tm e0;obtain⟨a,xs,y,v,C,r,m⟩:=d.sl i _ e;have k:ab (vw H hid) (vw H (bI c.hid₀ a)):=ft λb w=>by
   unfold bI at w;cases e:c.hid₀ b with
   |true=>exact d.h0 b e
   |false=>
    nofun
  refine⟨_,y,q _ H ⟨d.kp,⟨a,xs,ds,rfl,rfl,r,v,m.mono k⟩,λj bs p=>?_⟩⟩;obtain⟨s,f,A,o,B,u,z⟩:=d.sl j _ p;exact⟨s,f,u,o,z.mono k⟩
end
section
variable {K:Sf}{c:Ct}{ρ:aC}{σ:St}
theorem SR.setV(h:SR K c hid ρ σ H)(r:Rep K (vw H hid) v d)(i:Nat):SR K c hid (ρ.set i (.v d)) (σ.set i (p5 v)) H:=by
 refine⟨h.tr,h.ht,h.h0,h.kp,h.t0,h.c0,h.m0,by simp[h.len],λj s q=>?_,λj l z n p k y t=>?_⟩
 ·by_cases e:j=i
  ·subst e;have lt:j<ρ.length:=by
    have:=(Sz.mp q).1;nofun
   rw[SX lt] at q;cases q;exact⟨v,SX (by rw[h.len];exact lt),r⟩
  ·rw[SD (S9 e)] at q;have w:=h.sl j s q;have es:(σ.set i (p5 v))[j]? =σ[j]? :=SD (S9 e);cases s with
   |no=>trivial
   |v d=>obtain⟨x,f,g⟩:=w;exact⟨x,es.trans f,g⟩
   |own ds=>obtain⟨a,xs,f,g⟩:=w;exact⟨a,xs,es.trans f,g⟩
   |arg ds=>obtain⟨a,xs,f,g⟩:=w;exact⟨a,xs,es.trans f,g⟩
   |ob b=>obtain⟨a,f,g⟩:=w;exact⟨a,es.trans f,g⟩
 ·have u: ∀m,Ow (ρ.set i (.v d))[m]? ->m≠i:=λm o e=>by
   subst e
   by_cases lt:m<ρ.length
   ·rw[SX lt] at o;exact o
   ·rw[Xg (by nofun)] at o;exact o
  have A:=u j p;have B:=u l k;rw[SD (S9 A)] at p y;rw[SD (S9 B)] at k t;exact h.ap j l z n p k y t
theorem SR.setO(h:SR K c hid ρ σ H)(A:H a=p5 (.lst xs))(B:hid a=ζ)(y:c.H₀ a=ξ)(r:Reps K (vw H hid) xs ds)(no: ∀i:Nat,Ow ρ[i]? ->σ[i]? ≠p5 (p5 (.ref a)))(i:Nat):
 SR K c hid (ρ.set i (.own ds)) (σ.set i (p5 (.ref a))) H:=by
 refine⟨h.tr,h.ht,h.h0,h.kp,h.t0,h.c0,h.m0,by simp[h.len],λj s q=>?_,λj l z n u k t m=>?_⟩
 ·by_cases e:j=i
  ·subst e;have lt:j<ρ.length:=by
    have:=(Sz.mp q).1;nofun
   rw[SX lt] at q;cases q;exact⟨a,xs,SX (by rw[h.len];exact lt),A,B,y,r⟩
  ·rw[SD (S9 e)] at q;have w:=h.sl j s q;have es:(σ.set i (p5 (V.ref a)))[j]? =σ[j]? :=SD (S9 e);cases s with
   |no=>trivial
   |v d=>obtain⟨x,f,g⟩:=w;exact⟨x,es.trans f,g⟩
   |own ds=>obtain⟨a,xs,f,g⟩:=w;exact⟨a,xs,es.trans f,g⟩
   |arg ds=>obtain⟨a,xs,f,g⟩:=w;exact⟨a,xs,es.trans f,g⟩
   |ob b=>obtain⟨a,f,g⟩:=w;exact⟨a,es.trans f,g⟩
 ·by_cases p:j=i
  ·subst p;have o:l≠j:=λe=>n e.symm
   rw[SD (S9 o)] at k m
   by_cases lt:j<σ.length
   ·nofun
   nofun
  ·rw[SD (S9 p)] at u t
   by_cases o:l=i
   ·grind
   ·rw[SD (S9 o)] at k m;exact h.ap j l z n u k t m
end
section
variable {X:Cx}{c:Ct}{st:Stmt}{pos:Pos}{x:Str}{i:Nat}
def f8(i:Nat)(f:GE):FS:=λρ=>match f ρ with
 |some (d,ρ')=>.nx (ρ'.set i (.v d))
 |none=>.no
def bp(i:Nat)(f:FE):FS:=λρ=>match f ρ with
 |some d=>.nx (ρ.set i (.v d))
 |none=>.no
def Rh:D->Option (List D)
 | .lst ds=>p5 ds
 |_=>ξ
def y8(i:Nat)(f:GE):FS:=λρ=>match f ρ with
 |some (d,ρ')=>(match Rh d with
  |some ds=>.nx (ρ'.set i (.own ds))
  |none=>.no)
 |none=>.no
def dW(i:Nat)(f:FE):FS:=λρ=>match f ρ with
 |some d=>(match Rh d with
  |some ds=>.nx (ρ.set i (.own ds))
  |none=>.no)
 |none=>.no
theorem gH(i:Nat)(l:X.N.Nodup)(g:DE X c .s e f)(m:X.N[i]? =p5 x:=by rfl)(n:Ed X.env.scope x:=by first|exact TJ rfl|exact Ta rfl)(h:UD e (some (.Name x pos')) pos.line X.env=pure false:=by rfl)
 (j:X.fn x=ζ\/X.env.scope.names.lookup x=p5 .local:=by first|exact .inl rfl|exact .inr rfl|assumption):DS X c k (.Assign [.Name x pos'] e pos) (f8 i f):=λρ=>PS.imp (nU l m n (ny λhid=>g hid ρ) h j) λD σ H a=>by
 obtain⟨hid,b,q⟩:=a;unfold f8 at q;cases e1:f ρ with
 |none=>rw[e1] at q;exact q.elim
 |some z=>
  rw[e1] at q;exact⟨hid,b,z.1,z.2,e1,λv d ⟨o,s',r⟩=>q _ d hid (s'.setV r i) o.vw⟩
theorem aZ(i:Nat)(l:X.N.Nodup)(g:DP X c .s e f)(m:X.N[i]? =p5 x:=by rfl)(n:Ed X.env.scope x:=by first|exact TJ rfl|exact Ta rfl)(h:UD e (some (.Name x pos')) pos.line X.env=pure false:=by rfl)
 (j:X.fn x=ζ\/X.env.scope.names.lookup x=p5 .local:=by first|exact .inl rfl|exact .inr rfl|assumption):DS X c k (.Assign [.Name x pos'] e pos) (bp i f):=λρ=>PS.imp (nU l m n (ny λhid=>g hid ρ) h j) λD σ H a=>by
 obtain⟨hid,b,q⟩:=a;unfold bp at q;cases e1:f ρ with
 |none=>rw[e1] at q;exact q.elim
 |some z=>
  rw[e1] at q;exact⟨hid,b,z,e1,λv d s' r=>q _ d hid ((b.ext s').setV r i) (aH s')⟩
theorem Ji {K:Sf}{ρ':aC}{σ:St}{D:ue}(p:kn K c hid .n ρ' σ H H' v d)(q:el K c k D (vw H hid) (match Rh d with
 |some ds=>.nx (ρ'.set i (.own ds))
 |none=>.no)):D.nx (σ.set i (p5 v)) H':=by
 obtain⟨r,a,xs,ds,rfl,rfl,t,f,m,s,j,e,h⟩:=p;refine q _ H' (bI hid a) (j.setO f cQ m e h i) λb o w=>?_
 obtain⟨g,l⟩:=cc.mp w;refine cc.mpr ⟨?_,r b o l g⟩;unfold bI;grind
theorem Js(i:Nat)(j:X.N.Nodup)(d:DE X c .n e f)(l:X.N[i]? =p5 x:=by rfl)(m:Ed X.env.scope x:=by first|exact TJ rfl|exact Ta rfl)(g:UD e (some (.Name x pos')) pos.line X.env=pure false:=by rfl)
 (h:X.fn x=ζ\/X.env.scope.names.lookup x=p5 .local:=by first|exact .inl rfl|exact .inr rfl|assumption):DS X c k (.Assign [.Name x pos'] e pos) (y8 i f):=λρ=>PS.imp (nU j l m (ny λhid=>d hid ρ) g h) λD σ H a=>by
 obtain⟨hid,b,q⟩:=a;unfold y8 at q;cases e1:f ρ with
 |none=>rw[e1] at q;exact q.elim
 |some z=>
  rw[e1] at q;exact⟨hid,b,z.1,z.2,e1,λv o p=>Ji p q⟩
theorem fj(i:Nat)(j:X.N.Nodup)(d:DP X c .n e f)(l:X.N[i]? =p5 x:=by rfl)(m:Ed X.env.scope x:=by first|exact TJ rfl|exact Ta rfl)(g:UD e (some (.Name x pos')) pos.line X.env=pure false:=by rfl)
 (h:X.fn x=ζ\/X.env.scope.names.lookup x=p5 .local:=by first|exact .inl rfl|exact .inr rfl|assumption):DS X c k (.Assign [.Name x pos'] e pos) (dW i f):=λρ=>PS.imp (nU j l m (ny λhid=>d hid ρ) g h) λD σ H a=>by
 obtain⟨hid,b,q⟩:=a;unfold dW at q;cases e1:f ρ with
 |none=>rw[e1] at q;exact q.elim
 |some z=>
  rw[e1] at q;exact⟨hid,b,z,e1,λv o s r=>Ji (b.post s r ()) q⟩
def DX(i:Nat)(ρ:aC):aC:=match zL ρ[i]? with
 |some ds=>ρ.set i (.v (.lst ds))
 |none=>ρ
theorem SR.freeze {K:Sf}(h:SR K c hid ρ σ H)(i:Nat): ∃g,SR K c g (DX i ρ) σ H/\ab (vw H hid) (vw H g):=by
 unfold DX;cases e0:zL ρ[i]? with
 |none=>exact⟨hid,h,ab.refl _⟩
 |some ds=>
  have e:=tm e0;obtain⟨a,xs,y,I,R,S,L⟩:=h.sl i _ e;have t:ab (vw H hid) (vw H (eQ hid a)):=ft λb w=>by unfold eQ at w;rw[TL] at w;exact w.1
  have A: ∀b,b≠a->hid b=ζ->eQ hid a b=true:=λb n w=>by unfold eQ;nofun
  have T:c.hid₀ a=false:=by
   cases q:c.hid₀ a with
   |false=>rfl
   |true=>obtain⟨o,w⟩:=h.c0 a q;nofun
  refine⟨eQ hid a,⟨λb w=>h.tr b (by unfold eQ at w;rw[TL] at w;exact w.1),λb xs w=>h.ht b xs (by unfold eQ at w;rw[TL] at w;exact w.1),λb w=>A b (λe=>by nofun) (h.h0 b w),h.kp,h.t0,h.c0,h.m0,by simp[h.len],λj s q=>?_,λj l z n E B P J=>?_⟩,t⟩
  ·by_cases u:j=i
   ·subst u;rw[SX (Sz.mp e).1] at q;cases q;exact⟨_,y,.lst (cc.mpr ⟨by simp[eQ],I⟩) (L.mono t)⟩
   ·rw[SD (S9 u)] at q;have w:=h.sl j s q;cases s with
    |no=>trivial
    |v d=>obtain⟨x,f,k⟩:=w;exact⟨x,f,k.mono t⟩
    |own ds=>
     obtain⟨r,xs,f,k,C,D,F⟩:=w;exact⟨r,xs,f,k,A r (λp=>by subst p;exact h.ap j i _ u (by rw[q];trivial) (by rw[e];trivial) f y) C,D,F.mono t⟩
    |arg ds=>
     obtain⟨r,xs,f,k,C,D,F⟩:=w;exact⟨r,xs,f,k,A r (λp=>by subst p;exact h.ap j i _ u (by rw[q];trivial) (by rw[e];trivial) f y) C,D,F.mono t⟩
    |ob b=>
     obtain⟨r,f,k⟩:=w;exact⟨r,f,k.mono (λ_ _ _ _ q=>q) t λM x N=>A x (N.ne (λp=>by subst p;exact h.ap j i _ u (by rw[q];exact M) (by rw[e];trivial) f y) I)⟩
  ·have G: ∀m,Ow (ρ.set i (.v (.lst ds)))[m]? ->m≠i:=λm o p=>by
    subst p
    by_cases lt:m<ρ.length
    ·rw[SX lt] at o;exact o
    nofun
   have O:=G j E;have Q:=G l B;rw[SD (S9 O)] at E;rw[SD (S9 Q)] at B;exact h.ap j l z n E B P J
theorem Ga(i:Nat)(h:DS X c k st t):DS X c k st (λρ=>t (DX i ρ)):=λρ=>PS.imp (h (DX i ρ)) λD σ H b=>by
 obtain⟨hid,e,q⟩:=b;obtain⟨a,d,f⟩:=e.freeze i;exact⟨a,d,el.mono q f⟩
def dB(f:GE):FS:=λρ=>match f ρ with
 |some (_,ρ')=>.nx ρ'
 |none=>.no
theorem ir(g:DE X c .s e f)(h:UD e ξ pos.line X.env=pure false:=by rfl):DS X c k (.Expr e pos) (dB f):=λρ=>PS.imp (BK (ny λhid=>g hid ρ) h) λD σ H a=>by
 obtain⟨hid,b,q⟩:=a;unfold dB at q;cases e1:f ρ with
 |none=>rw[e1] at q;exact q.elim
 |some z=>
  rw[e1] at q;exact⟨hid,b,z.1,z.2,e1,λv d ⟨i,s',_⟩=>q _ d hid s' i.vw⟩
def P7(K:Sf)(r:V->List V->Hp->VK->Prop)(n:Nat)(M:List D->List D->Option (D×List D)):Prop:= ∀(H:Hp) (hid:bv) (a:Addr) (xs us:List V) (bs ds c:List D) (d:D) (Q:VK),H a=p5 (.lst xs)->hid a=ζ->Reps K (vw H hid) xs bs->Reps K (vw H hid) us ds->
 ds.length=n->M bs ds=p5 (d,c)->(∀w b,Reps K (vw H hid) b c->Rep K (vw H hid) w d->Q w (aV H a (.lst b)))->r (.ref a) us H Q
theorem N7 {K:Sf}(C:P7 K r n M){bs ds f:List D}(t:lT hid H H1)(j:SR K c hid ρ1 σ H1)(m:gm i ρ1=p5 bs)
 (k:σ[i]? =p5 (p5 (.ref a))) (B:Reps K (vw H1 hid) us ds) (E:ds.length=n) (x:M bs ds=p5 (d,f)) (q: ∀v h,kn K c hid .s (fO i f ρ1) σ H h v d->Q v h):r (.ref a) us H1 Q:=by
 obtain⟨I,xs,p,A,g,G,J⟩:=j.held m;rw[k] at p;cases p;refine C H1 hid a xs us bs ds f d Q A g G B E x λw u F y=>q w _ ⟨t.trans λb o z l=>?_,?_,?_⟩
 ·rw[az (λe=>by nofun)];exact z
 ·exact j.put m k (λb o z l=>by rw[az l];exact z) aA (by rw[cm g];exact F)
 ·rw[cm g];omega
variable {apos:Pos}{id:String}
theorem l6(i:Nat)(C:P7 X.K r n M)(F:NR X id r)(j:Slot "list" name id)(l:typeOf (.builtin id)=pure (.type "method_descriptor"))(A:DG X c (e::es) fs)
 (u:X.N[i]? =p5 y:=by rfl) (hv:oe X.env.scope y:=by first|exact TJ rfl|exact Ta (TJ rfl)|exact Ta (Ta rfl)) (O:(y==("__debug__":Str))=false:=by decide) (k:(y==("__classdict__":Str))=false:=by decide)
 (f:Ve (.Name y py) name X.env (eval (.Name y py) X.env)=eval (.Name y py) X.env:=by rfl)
 (h:((Ue pos (Sv (e::es) X.env)).all (λx=> !x.1)&&(XA pos (VW [] X.env)).all (λx=>x.1.isSome)
   &&χ ((e::es).length+([]:List Vv).length+(if([]:List Vv).isEmpty then 0 else 1)<30))=true:=by rfl)
 (g:(apos.endLine==pos.line)=true:=by rfl) (w:Sv (e::es) X.env=(θ,eval e X.env)::Sv es X.env:=by rfl) (b:(Ue pos (Sv es X.env)).any (·.1)=false:=by rfl):
 DE X c .s (.Call (.Attribute (.Name y py) name apos) (e::es) [] pos) (a9 i n M fs):=λhid ρ=>
 PE.imp (yA WW j l F (pv i u hv O k) (A hid ρ) f h g w b) λσ H Q m=>by
  obtain⟨t,d,ρ',o,q⟩:=m;obtain⟨E,ds,ρ1,bs,z,P,J,R,B,G,rfl⟩:=qo o;obtain⟨a,xs0,p,I,S,_,_⟩:=t.held P;exact⟨.ref a,p,.inl ⟨rfl,_,SqL.of I⟩,t,ds,ρ1,J,λus T D v L=>N7 C D v R p L B G q⟩
end
section
variable {K:Sf}
def oY:List D->List D->Option (D×List D):=λbs ds=>match ds with
 | [d]=>if bs.length<SC then p5 (.non,bs++[d]) else ξ
 |_=>ξ
theorem jQ:P7 K BH 1 oY:=by
 intro H hid a xs us bs ds f d Q e h c g i b q;unfold oY at b;split at b
 ·split at b
  ·cases b;cases g with
   |cons r t=>
    cases t;exact⟨a,xs,_,rfl,rfl,e,by rw[c.length];omega,q _ _ (c.append (.cons r .nil)) .non⟩
  nofun
 nofun
def sJ:List D->List D->Option (D×List D):=λbs ds=>match ds with
 | [.int i]=>match (if bs.length<=SC then vO bs.length i else ξ) with
   |some j=>(bs[j]?).map λd=>(d,bs.eraseIdx j)
   |none=>ξ
 |_=>ξ
theorem Nk:P7 K GI 1 sJ:=by
 intro H hid a xs us bs ds l d Q g s c m w b q;unfold sJ at b;split at b
 ·split at b
  ·rename_i i _ j e
   cases e1:bs[j]? with
   |none=>nofun
   |some z=>
    rw[e1] at b;cases b;cases m with
    |cons r t=>
     cases t;cases r;obtain⟨x,o,f⟩:=c.get e1;split at e
     ·obtain⟨h,u,p,v⟩:=vy e;have n:=c.length;have k:=kG;refine⟨a,xs,i,j,x,rfl,rfl,g,⋯,⋯,by rw[n];exact h,o,q _ _ (c.eraseIdx j) f⟩
     nofun
  nofun
 nofun
end
abbrev FG:=D->aC->Option aC
abbrev wX:=List D->aC->Option aC
def OwK(ρ ρ':aC)(σ a:St):Prop:= ∀i:Nat,Ow ρ'[i]? ->Ow ρ[i]? /\a[i]? =σ[i]?
theorem OwK.trans {ρ ρ1 ρ2:aC}(a:OwK ρ ρ1 σ σ1)(b:OwK ρ1 ρ2 σ1 σ2):OwK ρ ρ2 σ σ2:=λi o=>⟨(a i (b i o).1).1,(b i o).2.trans (a i (b i o).1).2⟩
def Qq {ι:Type}(IR:Hp->V->ι->Prop)(K:Sf)(c:Ct)(hid:bv)(g:ι->aC->Option aC)(ρ:aC)(d:ι):TG:=λv σ H Q=>SR K c hid ρ σ H/\IR (vw H hid) v d/\ ∃ρ',g d ρ=p5 ρ'/\ ∀a,SR K c hid ρ' a H->OwK ρ ρ' σ a->Q a H
def Qj {ι:Type}(IR:Hp->V->ι->Prop)(X:Cx)(c:Ct)(a:Expr)(g:ι->aC->Option aC):Prop:= ∀hid ρ d,PG X a (Qq IR X.K c hid g ρ d)
abbrev wW(X:Cx)(c:Ct)(a:Expr)(g:FG):Prop:=Qj (Rep X.K) X c a g
def QW(K:Sf)(c:Ct)(hid:bv)(g:wX)(ρ:aC)(d:List D):GZ:=λv σ H Q=>SR K c hid ρ σ H/\Reps K (vw H hid) v d/\ ∃ρ',g d ρ=p5 ρ'/\ ∀a,SR K c hid ρ' a H->OwK ρ ρ' σ a->Q a H
def Qa(X:Cx)(c:Ct)(a:List Expr)(g:wX):Prop:= ∀hid ρ d,PGs X a (QW X.K c hid g ρ d)
theorem PG.imp {X:Cx}(h:PG X e t)(i: ∀v σ H Q,t' v σ H Q->t v σ H Q):PG X e t':=λa s σ H v u Q I r q=>h a s σ H v u Q I r (i v σ H Q q)
theorem PGs.imp {X:Cx}(h:PGs X e t)(i: ∀v σ H Q,t' v σ H Q->t v σ H Q):PGs X e t':=λa s σ H v u Q I r q=>h a s σ H v u Q I r (i v σ H Q q)
theorem Hi {X:Cx}{e:Expr}{α:Type}{t:α->TG}(h: ∀z,PG X e (t z)):PG X e (λv σ H Q=> ∃z,t z v σ H Q):=λa s σ H v u Q I r ⟨z,q⟩=>h z a s σ H v u Q I r q
theorem By {X:Cx}{e:List Expr}{α:Type}{t:α->GZ}(h: ∀z,PGs X e (t z)):PGs X e (λv σ H Q=> ∃z,t z v σ H Q):=λa s σ H v u Q I r ⟨z,q⟩=>h z a s σ H v u Q I r q
section
variable {X:Cx}{c:Ct}{iter:Expr}{pos:Pos}{x:Str}{i:Nat}
def gN(i:Nat):FG:=λd ρ=>p5 (ρ.set i (.v d))
theorem au(i:Nat)(l:X.N.Nodup)(h:X.N[i]? =p5 x:=by rfl)(g:Ed X.env.scope x:=by first|exact TJ rfl|exact Ta rfl)(k:X.fn x=true\/X.env.scope.names.lookup x=some .local:=by first|exact .inl rfl|exact .inr rfl|assumption):
 wW X c (.Name x pos) (gN i):=λhid ρ d=>PG.imp (KY (i:=i) l h g k) λv σ H Q a=>by
 obtain⟨b,r,ρ',e,q⟩:=a;cases e;refine q _ (b.setV r i) λj o=>?_
 have f:j≠i:=λe=>by
  subst e
  by_cases lt:j<ρ.length
  ·rw[SX lt] at o;exact o
  ·rw[Xg (by nofun)] at o;exact o
 rw[SD (S9 f)] at o⊢;exact⟨o,rfl⟩
def kZ:wX:=λds ρ=>match ds with
 | []=>p5 ρ
 |_=>ξ
def gp(g:FG)(a:wX):wX:=λds ρ=>match ds with
 | []=>ξ
 |d::r=>(g d ρ).bind λρ'=>a r ρ'
theorem di:Qa X c [] kZ:=λhid ρ d=>PGs.imp BV λv σ H Q a=>by
 obtain⟨b,r,ρ',e,q⟩:=a;unfold kZ at e;split at e
 ·cases e;cases r;exact⟨rfl,q σ b λi o=>⟨o,rfl⟩⟩
 nofun
theorem aW(j:wW X c e g)(n:Qa X c es gs)(m:(UB (e::es) X.env).map (·.2)=VS e X.env::(UB es X.env).map (·.2):=by rfl):Qa X c (e::es) (gp g gs):=λhid ρ d=>
 PGs.imp (yJ (Hi λd=>j hid ρ d) (By λz:aC×List D=>n hid z.1 z.2) m) λv σ H Q b=>by
  obtain⟨h,r,ρ',e,q⟩:=b;cases d with
  |nil=>cases e
  |cons f ds=>
   cases r with
   |cons p o=>
    have e:(g f ρ).bind (λρ'=>gs ds ρ')=p5 ρ':=e;cases e1:g f ρ with
    |none=>nofun
    |some ρ1=>
     rw[e1] at e;exact⟨_,_,rfl,f,h,p,ρ1,e1,λl k s=>⟨(ρ1,ds),k,o,ρ',e,λa t i=>q a t (s.trans i)⟩⟩
def gT(n:Nat)(a:wX):FG:=λd ρ=>match d with
 | .tup ds=>if ds.length=n then a ds ρ else ξ
 |_=>ξ
theorem db{j n:Nat}(l:X.calm=ζ)(h:Qa X c es gs)(k:(UB es X.env).length=n:=by rfl)(a:(UB es X.env).findIdx? (·.1)=none:=by rfl):wW X c (.Tuple es j pos) (gT n gs):=λhid ρ d=>
 PG.imp (G9 l (By λds=>h hid ρ ds) k a) λv σ H Q b=>by
  obtain⟨g,r,ρ',e,q⟩:=b;unfold gT at e;split at e
  ·split at e
   ·cases r with
    |tup i f=>exact⟨_,_,rfl,SqT.of (cu _ _ _ _ i),by rw[f.length];omega,_,g,f,ρ',e,q⟩
   nofun
  nofun
def MI:Option aC->Out
 |some ρ=>.nx ρ
 |none=>.no
def eK(g:FG)(f:GE):FS:=λρ=>match f ρ with
 |some z=>MI (g z.1 z.2)
 |none=>.no
theorem qB(j:DE X c .s e f)(m:wW X c tg g)(l:Xw [tg] e pos.line X.env=pure false:=by rfl)(hw:Xx [tg] e X.env=pure none:=by rfl)
 (h:(UB [tg] X.env).map (·.2)=[VS tg X.env]:=by rfl):DS X c k (.Assign [tg] e pos) (eK g f):=λρ=>
 PS.imp (F7 (ny λhid=>j hid ρ) (Hi λz:bv×aC×D=>m z.1 z.2.1 z.2.2) l hw h) λD σ H a=>by
  obtain⟨hid,d,q⟩:=a;unfold eK at q;cases e1:f ρ with
  |none=>rw[e1] at q;exact q.elim
  |some z=>
   rw[e1] at q;cases e2:g z.1 z.2 with
   |none=>dsimp only at q;rw[e2] at q;exact q.elim
   |some ρ2=>
    dsimp only at q;rw[e2] at q;exact⟨hid,d,z.1,z.2,e1,λv i ⟨o,s',r⟩=>⟨(hid,z.2,z.1),s',r,ρ2,e2,λb n _=>q b i hid n o.vw⟩⟩
def cI(i:Nat)(a:FE)(d:D)(ρ:aC):Option aC:=match gm i ρ with
 |some bs=>(match a ρ with
  |some (.int j)=>(match vO bs.length j with
   |some m=>p5 (fO i (bs.set m d) ρ)
   |none=>ξ)
  |_=>ξ)
 |none=>ξ
theorem y6(h:cI i fi d ρ=p5 ρ'): ∃bs j m,gm i ρ=p5 bs/\fi ρ=p5 (.int j)/\vO bs.length j=p5 m/\ρ'=fO i (bs.set m d) ρ:=by
 grind[cI]
def QC(K:Sf)(c:Ct)(hid:bv)(g:FG)(ρ:aC)(d:D):TG:=λv σ H Q=>SR K c hid ρ σ H/\Rep K (vw H hid) v d/\ ∃ρ',g d ρ=p5 ρ'/\ ∀a,lT hid H a->SR K c hid ρ' σ a->Q σ a
def Qe(X:Cx)(c:Ct)(a:Expr)(g:FG):Prop:= ∀hid ρ d,PG X a (QC X.K c hid g ρ d)
theorem fK(i:Nat)(D:DP X c k1 ix fi)(A:X.N[i]? =p5 y:=by rfl)(hv:oe X.env.scope y:=by first|exact TJ rfl|exact Ta (TJ rfl)|exact Ta (Ta rfl))(G:(y==("__debug__":Str))=false:=by decide)(l:(y==("__classdict__":Str))=false:=by decide)
 (B: ∀v,VS (.Subscript (.Name y py) ix pos) X.env v=(do
   let ov <-Wi [v] (eval (.Name y py) X.env)
   let k <-Wi [v,ov] (eval ix X.env)
   Yn pos
   Wi [v,ov,k] (setItem ov k v)
   release [v,ov,k] []):=by intro _;rfl):Qe X c (.Subscript (.Name y py) ix pos) (cI i fi):=λhid ρ d=>
 PG.imp (LI (pv i A hv G l) (D hid ρ) HC B) λv σ H Q p=>by
  obtain⟨g,r,ρ',e,q⟩:=p;obtain⟨bs,j,m,s,J,I,rfl⟩:=y6 e;obtain⟨a,xs,u,E,C,t,M⟩:=g.held s;refine⟨.ref a,u,g,_,J,λw L f F=>?_⟩;have K:=(RK.b k1 F λa n=>g.fresh n).int;cases K;have h:=t.mono (aH (hid:=hid) f);refine⟨a,xs,j,m,rfl,rfl,f _ _ E,by rw[t.length];exact I,q _ (λb o z x=>?_) ?_⟩
  ·rw[az (λe=>by nofun)];exact f _ _ z
  ·exact(g.ext f).put s u (λb o z x=>by rw[az x];exact z) aA (by rw[cm C];exact Reps.set (r.mono (aH f)) m h)
theorem mX(i:DE X c .s e f)(m:Qe X c tg g)(j:Xw [tg] e pos.line X.env=pure false:=by rfl)(hw:Xx [tg] e X.env=pure none:=by rfl)
 (d:(UB [tg] X.env).map (·.2)=[VS tg X.env]:=by rfl):DS X c k (.Assign [tg] e pos) (eK g f):=λρ=>
 PS.imp (F7 (ny λhid=>i hid ρ) (Hi λz:bv×aC×D=>m z.1 z.2.1 z.2.2) j hw d) λD σ H a=>by
  obtain⟨hid,b,q⟩:=a;unfold eK at q;cases e1:f ρ with
  |none=>rw[e1] at q;exact q.elim
  |some z=>
   rw[e1] at q;cases e2:g z.1 z.2 with
   |none=>dsimp only at q;rw[e2] at q;exact q.elim
   |some ρ2=>
    dsimp only at q;rw[e2] at q;exact⟨hid,b,z.1,z.2,e1,λv p ⟨o,s',r⟩=>⟨(hid,z.2,z.1),s',r,ρ2,e2,λl h n=>q σ l hid n (o.trans h).vw⟩⟩
def Qx(K:Sf)(c:Ct)(hid:bv)(g:wX)(ρ:aC)(d:List D):GZ:=λv σ H Q=>SR K c hid ρ σ H/\Reps K (vw H hid) v d/\ ∃ρ',g d ρ=p5 ρ'/\ ∀a,lT hid H a->SR K c hid ρ' σ a->Q σ a
def Qh(X:Cx)(c:Ct)(a:List Expr)(g:wX):Prop:= ∀hid ρ d,PGs X a (Qx X.K c hid g ρ d)
theorem vz:Qh X c [] kZ:=λhid ρ d=>PGs.imp BV λv σ H Q a=>by
 obtain⟨b,r,ρ',e,q⟩:=a;unfold kZ at e;split at e
 ·cases e;cases r;exact⟨rfl,q H (.of (ab.refl _)) b⟩
 nofun
theorem hX(i:Qe X c e g)(m:Qh X c es gs)(l:(UB (e::es) X.env).map (·.2)=VS e X.env::(UB es X.env).map (·.2):=by rfl):Qh X c (e::es) (gp g gs):=λhid ρ d=>
 PGs.imp (yJ (Hi λd=>i hid ρ d) (By λz:aC×List D=>m hid z.1 z.2) l) λv σ H Q a=>by
  obtain⟨h,r,ρ',e,q⟩:=a;cases d with
  |nil=>cases e
  |cons b ds=>
   cases r with
   |cons o n=>
    have e:(g b ρ).bind (λρ'=>gs ds ρ')=p5 ρ':=e;cases e1:g b ρ with
    |none=>nofun
    |some ρ1=>
     rw[e1] at e;exact⟨_,_,rfl,b,h,o,ρ1,e1,λt f j=>⟨(ρ1,ds),j,n.mono f.vw,ρ',e,λp k s=>q p (f.trans k) s⟩⟩
theorem uR{j n:Nat}(l:X.calm=ζ)(h:Qh X c es gs)(k:(UB es X.env).length=n:=by rfl)(a:(UB es X.env).findIdx? (·.1)=none:=by rfl):Qe X c (.Tuple es j pos) (gT n gs):=λhid ρ d=>
 PG.imp (G9 l (By λds=>h hid ρ ds) k a) λv σ H Q b=>by
  obtain⟨g,r,ρ',e,q⟩:=b;unfold gT at e;split at e
  ·split at e
   ·cases r with
    |tup i f=>exact⟨_,_,rfl,SqT.of (cu _ _ _ _ i),by rw[f.length];omega,_,g,f,ρ',e,q⟩
   nofun
  nofun
def rl(K:Sf)(W:Hp)(J:It)(ds:List D):Prop:=
 (∀(i:Nat) (d:D) (H:Hp),ds[i]? =p5 d->ab W H->J.go i H/\ ∀x a,J.yld i H x a->ab H a/\ ∀hid:bv,(∀b,hid b=ζ-> ∃o,H b=p5 o)->ab W (vw H hid)->Rep K (vw a hid) x d)/\ ∀H,ab W H->J.stop ds.length H
def R5(K:Sf)(c:Ct)(hid:bv)(f:GA)(ρ:aC):TI:=λσ H R=>SR K c hid ρ σ H/\ ∃ds ρ',f ρ=p5 (ds,ρ')/\ ∀J a,lT hid H a->SR K c hid ρ' σ a->rl K (vw a hid) J ds->R J a
def DI(X:Cx)(c:Ct)(b a:Expr)(f:GA):Prop:= ∀hid ρ,PI X b a (R5 X.K c hid f ρ)
theorem PI.imp {t t':TI}(h:PI X tg iter t)(i: ∀σ H Q,t' σ H Q->t σ H Q):PI X tg iter t':=λa s σ H R I q=>h a s σ H R I (i σ H R q)
theorem QD {α:Type}{t:α->TI}(h: ∀z,PI X tg iter (t z)):PI X tg iter (λσ H R=> ∃z,t z σ H R):=λa s σ H R I ⟨z,q⟩=>h z a s σ H R I q
theorem FV {K:Sf}(h:SqT K W a xs)(r:Reps K W xs ds):rl K W (Q2 K a) ds:=by
 refine⟨λi d H e s=>?_,λH s=>⟨xs,ab.seqT s h,by rw[r.length];simp⟩⟩;obtain⟨x,b,c⟩:=r.get e;refine⟨⟨xs,x,ab.seqT s h,b⟩,λy k ⟨f,g⟩=>?_⟩;subst f;have:=g xs (ab.seqT s h);rw[b] at this;cases this;exact⟨ab.refl _,λhid _ j=>c.mono j⟩
def C7(a:Int)(n:Nat):List D:=(R9 n).map λ(i:Nat)=>D.int (a+i)
theorem z8 {K:Sf}{a:Int}:rl K W (Qb a n) (C7 a n):=by
 refine⟨λi d H e s=>?_,λH s=>by show n<=(C7 a n).length;simp[C7]⟩;unfold C7 at e;rw[Us] at e;cases e1:(R9 n)[i]? with
 |none=>nofun
 |some j=>
  rw[e1] at e;obtain⟨b,c⟩:=Sz.mp e1;simp at b c;subst c;cases e;refine⟨b,λy h ⟨g,f⟩=>?_⟩;subst g f;exact⟨ab.refl _,λhid _ k=>.int⟩
def c9(g:FG)(b:FS):List D->FS
 | [],ρ=>.nx ρ
 |d::r,ρ=>match g d ρ with
  |none=>.no
  |some ρ1=>match b ρ1 with
   | .nx ρ2=>c9 g b r ρ2
   | .ct ρ2=>c9 g b r ρ2
   | .bk ρ2=>.nx ρ2
   | .rt d ρ2=>.rt d ρ2
   | .no=>.no
def eL(f:GA)(g:FG)(b:FS):FS:=λρ=>match f ρ with
 |some (ds,ρ')=>c9 g b ds ρ'
 |none=>.no
theorem cT(R:jbf (model X.prog X.w) X.A X.env X.xe)(S:X.calm=ζ)(hi:DI X c tg iter f)(hg:wW X c tg g)(V:AI X c k body tb)
 (O: ∀x,TH iter X.env x=pure x:=by intro _;rfl):DS X c k (.For tg iter body [] pos) (eL f g tb):=λρ=>
 PS.imp (MU R S (QD λhid=>hi hid ρ) (Hi λz:bv×aC×D=>hg z.1 z.2.1 z.2.2) (EU λρ=>V ρ) O) λD σ H E=>by
  obtain⟨hid,Z,q⟩:=E;unfold eL at q;cases e1:f ρ with
  |none=>rw[e1] at q;exact q.elim
  |some z=>
   obtain⟨ds,r⟩:=z;rw[e1] at q;have q':el X.K c k D (vw H hid) (c9 g tb ds r):=q;refine⟨hid,Z,ds,r,e1,λJ C T M it=>?_⟩;refine⟨λi m σ H=>m=ds.length-i/\i<=ds.length/\ ∃a ρ2,SR X.K c a ρ2 σ H/\ab (vw C hid) (vw H a)/\el X.K c k D (vw H a) (c9 g tb (ds.drop i) ρ2),⟨ds.length,by rfl,Uv _,hid,r,M,ab.refl _,el.mono q' T.vw⟩,?_⟩;rintro i m B u ⟨rfl,W,a,ρ2,F,v,b⟩;have L:ab (vw C hid) u:=v.trans (cu _ _)
   by_cases s:i<ds.length
   ·have hd:ds[i]? =p5 ds[i]:=Su s;have e2:ds.drop i=ds[i]::ds.drop (i+1):=WB s;rw[e2] at b;unfold c9 at b;obtain⟨go,N⟩:=it.1 i ds[i] u hd L;refine .inr ⟨go,λj p=> ∃n l,SR X.K c n l j p/\ab (vw C hid) (vw p n)/\el X.K c k D (vw p n) (c9 g tb (ds.drop (i+1)) l),λj p n3=>⟨ds.length- (i+1),by grind,rfl,s,n3⟩,λx I y=>?_⟩;obtain⟨G,P⟩:=N x I y;have Y:=P a F.tr v;cases e3:g ds[i] ρ2 with
    |none=>rw[e3] at b;exact b.elim
    |some l=>
     rw[e3] at b;refine⟨(a,ρ2,ds[i]),F.ext G,Y,l,e3,λU Q _=>⟨l,a,Q,?_⟩⟩;have t:ab (vw u a) (vw I a):=aH G;dsimp only at b;cases e4:tb l with
     |nx o=>rw[e4] at b;exact λj p h z w=>⟨h,o,z,(v.trans t).trans w,el.mono b (t.trans w)⟩
     |ct o=>rw[e4] at b;exact λj p h z w=>⟨h,o,z,(v.trans t).trans w,el.mono b (t.trans w)⟩
     |bk o=>rw[e4] at b;exact λj p h z w=>b j p h z (t.trans w)
     |rt d o=>rw[e4] at b;exact b
     |no=>rw[e4] at b;exact b.elim
   ·have e:i=ds.length:=by grind
    subst e;rw[W3 (Sn _)] at b;exact .inl ⟨it.2 u L,b B u a F (ab.refl _)⟩
def rD(p:FT)(b:FS):Nat->FS
 |0,_=>.no
 |n+1,ρ=>match p ρ with
  |none=>.no
  |some false=>.nx ρ
  |some true=>match b ρ with
   | .nx ρ2=>rD p b n ρ2
   | .ct ρ2=>rD p b n ρ2
   | .bk ρ2=>.nx ρ2
   | .rt d ρ2=>.rt d ρ2
   | .no=>.no
theorem qM(n:Nat){p:FT}{tb:FS}(hp:jbf (model X.prog X.w) X.A X.env X.xe)(hc:DT X c e p)(hb:AI X c k body tb):DS X c k (.While e body [] pos) (rD p tb n):=λρ=>
 PS.imp (Hv hp (P0 λz:bv×aC=>hc z.1 z.2) (EU λρ=>hb ρ)) λD σ H hq_=>by
  obtain⟨hid,sr,q⟩:=hq_;refine⟨λm σ H=> ∃hid2 ρ2,SR X.K c hid2 ρ2 σ H/\el X.K c k D (vw H hid2) (rD p tb m ρ2),⟨n,hid,ρ,sr,q⟩,?_⟩;rintro m σ2 H2 ⟨hid2,ρ2,s2,q2⟩;cases m with
  |zero=>exact q2.elim
  |succ m=>
   unfold rD at q2;cases e1:p ρ2 with
   |none=>rw[e1] at q2;exact q2.elim
   |some b=>
    rw[e1] at q2;refine⟨(hid2,ρ2),s2,b,e1,λH3 s3=>?_⟩;cases b with
    |false=>exact Ft (q2 σ2 H3 hid2 (s2.ext s3) (aH s3))
    |true=>
     refine GO ⟨λσ' H'=> ∃hid3 ρ3,SR X.K c hid3 ρ3 σ' H'/\el X.K c k D (vw H' hid3) (rD p tb m ρ3),λσ' H' n3=>⟨m,Wt _,n3⟩,ρ2,hid2,s2.ext s3,?_⟩;have w3:ab (vw H2 hid2) (vw H3 hid2):=aH s3;dsimp only at q2;cases e4:tb ρ2 with
     |nx ρ5=>rw[e4] at q2;exact λσ' H' hid' z w=>⟨hid',ρ5,z,el.mono q2 (w3.trans w)⟩
     |ct ρ5=>rw[e4] at q2;exact λσ' H' hid' z w=>⟨hid',ρ5,z,el.mono q2 (w3.trans w)⟩
     |bk ρ5=>rw[e4] at q2;exact λσ' H' hid' z w=>q2 σ' H' hid' z (w3.trans w)
     |rt d ρ5=>rw[e4] at q2;exact q2
     |no=>rw[e4] at q2;exact q2.elim
end
def mG(n:Nat)(ds:List D):aC:=ds.map Sl.v++SA (n-ds.length) .no
def bP(kd:Kd)(n:Nat)(t:FS)(ds:List D):Option D:=match t (mG n ds) with
 | .rt d _=>p5 d
 | .nx _=>(match kd with
   | .n=>ξ
   |_=>p5 .non)
 |_=>ξ
def p9(n:Nat)(bs ds:List D):aC:=.arg bs::(ds.map Sl.v++SA (n-1-ds.length) .no)
def rC:aC->Option (List D)
 | .arg bs::_=>p5 bs
 |_=>ξ
def yP(kd:Kd)(n:Nat)(t:FS)(bs ds:List D):Option (D×List D):=match t (p9 n bs ds) with
 | .rt d ρ=>(rC ρ).map λb=>(d,b)
 | .nx ρ=>(match kd with
   | .n=>ξ
   |_=>(rC ρ).map λb=>(.non,b))
 |_=>ξ
theorem GU {K:Sf}{c:Ct}(m:Nat): ∀ {vs:List V} {ds:List D},Reps K (vw H hid) vs ds-> ∀(i:Nat) (s:Sl),(ds.map Sl.v++SA m .no)[i]? =p5 s->u5 K c hid (vs.map p5++SA m ξ) H i s:=by
 intro vs ds r i s e;have g:=r.length
 by_cases d:i<ds.length
 ·rw[Tu (by nofun),Us] at e;have a:ds[i]? =p5 ds[i]:=Su d;rw[a] at e;cases e;obtain⟨x,b,f⟩:=r.get a;exact⟨x,by rw[Tu (by nofun),Us,b];rfl,f⟩
 ·rw[T5 (by nofun),Ui] at e;split at e
  ·cases e;trivial
  nofun
theorem O3 {ds:List D}{m i:Nat}: ¬Ow (ds.map Sl.v++SA m Sl.no)[i]? :=λo=>by
 by_cases a:i<ds.length
 ·rw[Tu (by nofun),Us,Su a] at o;exact o
 ·rw[T5 (by nofun),Ui] at o;split at o<;>exact o
theorem SR.begins {K:Sf}{N:List Str}(c:PR hid H)(r:Reps K (vw H hid) vs ds):SR K ⟨H,hid,λ_=>θ⟩ hid (mG N.length ds) (start N vs) H:=by
 have d:=r.length;unfold start mG;rw[d];exact⟨c.1,c.2,λ_ h=>h,λ_ _ h _=>h,λb o h=>⟨o,h⟩,c.1,(λ_ h=>nomatch h),by simp[d],λi s e=>GU _ r i s e,λi j a _ o=>absurd o O3⟩
section
variable {K:Sf}{st:Stmt}{N ps:List Str}
theorem Cq(F:Fun K x qual st f fd)(S:bg N ps (av st))(l:kd≠ .b)
 (j: ∀(c:Sb) (A:Tb) (a:List Env) (s:Sc) (H:Hp) (hid:bv) (E:XK),er k (A.deeper (XI qual (av st) s.heap.objs.size f c))->
   AI (ss wZ P w K mg base N qual (av st) f c A a s H E).nox ⟨H,hid,λ_=>θ⟩ kd (dm st) t):
 ju P w K mg base wZ (k+1) f fd ps (spP K kd ps.length (bP kd N.length t)):=by
 refine F.ok S (λvs H Q E h=>?_) (λc A a s H vs Q E C h=>?_)
 ·obtain⟨hid,ds,_,r,u,_⟩:=h;rw[r.length,u]
 ·obtain⟨hid,ds,B,r,u,d,i,q⟩:=h;refine⟨_,j c A a s H hid E C (mG N.length ds),hid,SR.begins B r,?_⟩;unfold bP at i;cases e:t (mG N.length ds) with
  |nx ρ=>
   rw[e] at i;intro D g p y _;have m:ab H g:=λb o z=>y.kp b o z rfl
   cases kd with
   |b=>exact absurd rfl l
   |s=>cases i;exact q _ g m .non
   |n=>nofun
  |rt d' ρ=>
   rw[e] at i;cases i;intro v g R;have m:ab H g:=λb o z=>R.kp b o z rfl
   cases kd with
   |b=>exact absurd rfl l
   |s=>exact q v g m R.val
   |n=>exact q v g m R.val
  |bk ρ=>nofun
  |ct ρ=>nofun
  |no=>nofun
theorem SR.beginsE(k:PR hid H)(l:hid a=ζ)(p:H a=p5 (.lst xs))(q:Reps K (vw H hid) xs bs)(r:Reps K (vw H hid) us ds)(w:0<N.length):
 SR K ⟨H,hid,λb=>decide (b=a)⟩ hid (p9 N.length bs ds) (start N (.ref a::us)) H:=by
 have m:=r.length;have es:start N (.ref a::us)=p5 (V.ref a)::(us.map p5++SA (N.length-1-ds.length) ξ):=by
  unfold start;grind
 rw[es];unfold p9;refine⟨k.1,k.2,λ_ h=>h,λ_ _ h _=>h,λb o h=>⟨o,h⟩,k.1,λb h=>?_,by simp[m],λi s e=>?_,λi j z n A t y u=>?_⟩
 ·nofun
 ·cases i with
  |zero=>
   cases e;exact⟨a,xs,rfl,p,l,by simp,q⟩
  |succ i=>
   have z:=GU (c:=⟨H,hid,λb=>decide (b=a)⟩) (N.length-1-ds.length) r i s (by simpa using e);cases s with
   |no=>trivial
   |v d=>obtain⟨x,f,g⟩:=z;exact⟨x,by simpa using f,g⟩
   |own ds=>obtain⟨x,xs,f,g⟩:=z;lia
   |arg ds=>obtain⟨x,xs,f,g⟩:=z;exact⟨x,xs,by simpa using f,g⟩
   |ob b=>grind
 ·grind[O3]
theorem CF(h:rC ρ=p5 b):ρ[0]? =p5 (.arg b):=by
 unfold rC at h;grind
theorem MK(F:Fun K x qual st f fd)(S:bg N ps (av st))(y:kd≠ .b)(W:ps.length=n+1)
 (u: ∀(j:Sb) (A:Tb) (c:List Env) (s:Sc) (H:Hp) (hid:bv) (a:Addr) (E:XK),er k (A.deeper (XI qual (av st) s.heap.objs.size f j))->
   AI (ss wZ P w K mg base N qual (av st) f j A c s H E).nox ⟨H,hid,λb=>decide (b=a)⟩ kd (dm st) t):
 ju P w K mg base wZ (k+1) f fd ps (spE K kd n (yP kd N.length t)):=by
 refine F.ok S (λvs H Q E h=>?_) (λj A c s H vs Q E U h=>?_)
 ·obtain⟨hid,a,xs,bs,us,ds,rfl,_,_,_,_,r,B,_⟩:=h;rw[SN,r.length,B,W]
 ·obtain⟨hid,a,xs,bs,us,ds,rfl,tr,M,O,Y,r,B,d,m,l,q⟩:=h;have J:0<N.length:=by have:=congrArg Uk S.pre;grind
  refine⟨_,u j A c s H hid a E U (p9 N.length bs ds),hid,SR.beginsE tr M O Y r J,?_⟩;have fin: ∀(v:V) (g:Hp) (ρ:aC) (d:D),Ret K ⟨H,hid,λb=>decide (b=a)⟩ kd ρ g v d->rC ρ=p5 m->(∀v g i,(∀b o,H b=p5 o->b≠a->g b=p5 o)->g a=p5 (.lst i)->Og K kd hid H g v d i m->Q v g)->Q v g:=by
   intro v g ρ d R L q;obtain⟨T,i,m1,Z,I⟩:=R.arg 0 _ (CF L);have:T=a:=by simpa using m1
   subst this;refine q v g i (λb o z n=>R.kp b o z (by simpa using n)) Z ?_
   cases kd with
   |b=>exact absurd rfl y
   |s=>exact⟨R.val,I⟩
   |n=>
    obtain⟨p,ys,es,rfl,rfl,h1,h2,h3⟩:=R.val;exact⟨p,ys,es,rfl,rfl,h1,h2,h3,I⟩
  unfold yP at l;cases e:t (p9 N.length bs ds) with
  |nx ρ=>
   rw[e] at l;intro X g C G _;cases kd with
   |b=>exact absurd rfl y
   |s=>
    dsimp only at l;cases e0:rC ρ with
    |none=>nofun
    |some b=>
     rw[e0] at l;cases l;exact fin .non g ρ .non (Lj (k:=.s) (by omega) (G.post (k:=.s) (ab.refl _) .non (by omega)) G.h0) e0 q
   |n=>nofun
  |rt d' ρ=>
   rw[e] at l;dsimp only at l;cases e0:rC ρ with
   |none=>nofun
   |some b=>
    rw[e0] at l;cases l;intro v g R;exact fin v g ρ _ R e0 q
  |bk ρ=>nofun
  |ct ρ=>nofun
  |no=>nofun
end
def BJ(K:Sf):Sp:=λvs H Q _=> ∃(a:Addr) (ns:List Int),vs=[.ref a]/\SqR K H a (ns.map V.int)/\ns.length<=63/\ ∀b,Q (.bl ζ) b
theorem uB {K:Sf}: ∀ns:List Int,Reps K F (ns.map V.int) (ns.map D.int)
 | []=>.nil
 |_::r=>.cons .int (uB r)
theorem M9 {P:SS}{w:Tf}{K:Sf}{base:Heap}{x:Str}(F:ju P w K mg base wZ k f fd [x] (spP K .s 1 M))(i: ∀ns:List Int,ns.length<=63->M [.scr (ns.map D.int)]=p5 (.bl ζ)):
 ju P w K mg base wZ k f fd [x] (BJ K):=F.imp λvs H Q E c=>by
 obtain⟨a,ns,e,g,j,q⟩:=c;subst e;have hv:vw H (λ_=>θ)=H:=by rfl
 refine⟨λ_=>θ,[.scr (ns.map D.int)],⟨(λb h=>nomatch h),(λb xs h=>nomatch h)⟩,?_,rfl,.bl ζ,i ns j,λv d _ r=>?_⟩
 ·rw[hv];exact .cons (.scr g (uB ns)) .nil
 ·cases r;exact q d
theorem walkD {l:jea}{k:Nat}{x:Str}{d:DefRec}{K:Params->Sf}(y:l.most=p5 63)(c:d.params.defaults=[])(v:er k Za)
 (j: ∀(w:Tf) (h:Heap),YP w h->(K w.params).In h)
 (F: ∀(w:Tf) (b:Str->Option Sb) (i:Addr) (h:Heap),(K w.params).In h->h.Ns Ut b->b d.name=p5 (.ref i)->
   ∃g:Vj,(∀(s:Sc) (u:Sb),jaz s g ⟨[u],[]⟩ [(x,u)])/\ ∀base:Heap,(K w.params).In base->base.Ns Ut b->ju l.prog w (K w.params) b base wZ k i g [x] (BJ (K w.params))):
 W.WalkO q loose XP YP l.row.toRowW d [] (λf vs=>jcB f vs):=
 Lake.walk_of (n:=63) (k:=k) (x:=x) (CX:=λ_=>wZ) (sp:=λw=>BJ (K w.params)) y () c v j F (λ_ H a ns p t m=>⟨a,ns,rfl,m.elim (λr=>r.elim (λe=>by rcases t a with z|⟨o,xs,z⟩<;>rw[z] at e<;>cases e) .inl) .inr,p,λ_=>rfl⟩) λ_ _ _ _ _ z=>z
def wY(a:List (Str×Addr)):List (Str×Va)->List (Str×Addr)->List (Str×Addr)
 | [],acc=>acc
 |(n,k)::r,acc=>wY a r (if k== .free then(match a.lookup n with
  |some c=>(n,c)::acc
  |none=>acc) else acc)
theorem wL {a:List (Str×Addr)}: ∀ {names:List (Str×Va)} {acc:List (Str×Addr)},(∀p∈acc,a.lookup p.1=p5 p.2)-> ∀p∈wY a names acc,a.lookup p.1=p5 p.2
 | [],acc,h,p,d=>h p d
 |(n,k)::r,acc,h,p,d=>by
  refine wL (names:=r) ?_ p d;intro q b;split at b
  ·split at b
   ·rename_i c e
    grind
   ·exact h q b
  ·exact h q b
theorem yN: ∀ {names:List (Str×Va)} {acc:List (Str×Addr)} (p:Str×Addr),p∈wY cells names acc->p∈acc\/(p.1,UH)∈names
 | [],acc,p,a=>.inl a
 |(n,k)::r,acc,p,a=>by
  rcases yN (names:=r) p a with b|b
  ·grind
  ·exact .inr (Sx _ b)
theorem xU: ∀ {names:List (Str×Va)} {acc:List (Str×Addr)} {p:Str×Addr},p∈acc->p∈wY cells names acc
 | [],acc,p,h=>h
 |(n,k)::r,acc,p,h=>by
  refine xU (names:=r) ?_
  split
  ·grind[Sx]
  omega
theorem AJ {a:List (Str×Addr)}(b:a.lookup x=p5 c): ∀ {names:List (Str×Va)} {acc:List (Str×Addr)},(x,UH)∈names->(x,c)∈wY a names acc
 | [],_,h=>nomatch h
 |(n,k)::r,acc,h=>by
  rcases SU.mp h with e|h
  ·cases e;refine xU (names:=r) ?_
   grind
  ·exact AJ b (names:=r) h
theorem su {l:List (Str×Addr)}(h:(x,c)∈l)(u: ∀p∈l,p.1=x->p.2=c):l.lookup x=p5 c:=by
 induction l with
 |nil=>nofun
 |cons p r a=>
  grind
theorem yW {a:List (Str×Addr)}(h:(wY a names []).lookup x=p5 c):a.lookup x=p5 c:=
 wL (names:=names) (acc:=[]) (λ_ z=>nomatch z) (x,c) (TM h)
theorem oD {a:List (Str×Addr)}(b:a.lookup x=p5 c)(d:(x,UH)∈names):(wY a names []).lookup x=p5 c:=
 su (AJ b d) λp f e=>by
  grind[wL]
theorem eB {scope:U8}{a:Env}(h: ∀x,(x,UH)∈scope.names-> ∃c,a.cells.lookup x=p5 c):closureFor scope a=pure (wY a.cells scope.names []):=by
 unfold closureFor;have f: ∀(names:List (Str×Va)) (acc:List (Str×Addr)),(∀x,(x,UH)∈names-> ∃c,a.cells.lookup x=p5 c)->
  (forIn names acc (λ(p:Str×Va) (r:List (Str×Addr))=>match p with
    |(name,d)=>if(d==UH)=ζ then do
       let b <-cellOf a name
       pure (ForInStep.yield ((name,b)::r)) else pure (ForInStep.yield r)):Sem (List (Str×Addr)))=pure (wY a.cells names acc):=by
  intro names
  induction names with
  |nil=>intro acc _;rfl
  |cons p r i=>
   intro acc h;obtain⟨n,k⟩:=p;rw[List.forIn_cons];have j: ∀x,(x,UH)∈r-> ∃c,a.cells.lookup x=p5 c:=λx m=>h x (Sx _ m)
   cases e:k==UH with
   |false=>
    simp only[e,SF,if_false,pure_bind];rw[i acc j]
    conv=>rhs;unfold wY
    simp[e]
   |true=>
    have o:k=.free:=by simpa using e
    subst o;obtain⟨c,g⟩:=h n SB;have l:cellOf a n=pure c:=by unfold cellOf;rw[g]
    simp only[beq_self_eq_true,if_true,l,pure_bind];rw[i _ j]
    conv=>rhs;unfold wY
    simp[g]
 have:=f scope.names [] h;simp only[this,pure_bind]
theorem iq {b:U8}(h:(Xy b env).names.lookup x=p5 k): ∃a,b.names.lookup x=p5 a/\(k=a\/(a=.free/\k=.cell)):=by
 unfold Xy at h;dsimp only at h;generalize b.names=l at h⊢
 induction l with
 |nil=>grind
 |cons p r c=>
  obtain⟨n,d⟩:=p;grind
def rF(a:List (Str×Addr))(scope:U8)(C:Addr):List (Str×Addr):=UK (C+1) scope.names (wY a scope.names [])
theorem bD: ∀(names:List (Str×Va)) (n:Nat) (acc:List (Str×Addr)),UK n names acc=UK n names []++acc
 | [],_,_=>rfl
 |(name,a)::r,n,acc=>by
  unfold UK;split
  ·rw[bD r (n+1) ((name,n)::acc),bD r (n+1) [(name,n)],W1];rfl
  ·exact bD r n acc
theorem wj: ∀ {names:List (Str×Va)} {n:Nat} {p:Str×Addr},p∈UK n names []->(p.1,WI)∈names
 | [],_,_,h=>nomatch h
 |(name,a)::r,n,p,h=>by
  unfold UK at h;split at h
  ·rename_i c
   have b:a=.cell:=by simpa using c
   subst b;rw[bD] at h;rcases SL.mp h with h|h
   ·exact Sx _ (wj h)
   nofun
  ·exact Sx _ (wj h)
theorem nB: ∀ {names:List (Str×Va)} {n:Nat} {x:Str},(x,WI)∈names-> ∃c,(x,c)∈UK n names []
 | [],_,_,h=>nomatch h
 |(name,a)::r,n,x,h=>by
  unfold UK;rcases SU.mp h with e|h
  ·cases e;rw[if_pos (by rfl),bD];exact⟨n,Tj _ SB⟩
  ·split
   ·obtain⟨c,b⟩:=nB (n:=n+1) h;grind[bD]
   ·exact nB h
theorem Ak {l:List (Str×Addr)}{c:Addr}(h:(x,c)∈l): ∃b,l.lookup x=p5 b:=by
 induction l with
 |nil=>nofun
 |cons p r d=>
  obtain⟨n,a⟩:=p;rw[List.lookup_cons];cases e:x==n with
  |true=>exact⟨a,rfl⟩
  |false=>
   nofun
theorem eP{a:U8}(h:(rF cells a C).lookup x=p5 c):(x,c)∈UK (C+1) a.names []\/(wY cells a.names []).lookup x=p5 c:=by
 unfold rF at h;rw[bD,Yc] at h;cases e:(UK (C+1) a.names []).lookup x with
 |none=>rw[e] at h;exact .inr h
 |some b=>rw[e] at h;cases h;exact .inl (TM e)
theorem EZ{a:U8}(h:(x,WI)∈a.names): ∃c,(rF cells a C).lookup x=p5 c:=by
 obtain⟨c,d⟩:=nB (n:=C+1) h;obtain⟨b,e⟩:=Ak d;exact⟨b,by unfold rF;rw[bD,Yc,e];rfl⟩
theorem x0{a:U8}(h:(x,WI)∉a.names):(rF cells a C).lookup x=(wY cells a.names []).lookup x:=by
 unfold rF;rw[bD,Yc];cases e:(UK (C+1) a.names []).lookup x with
 |none=>rfl
 |some b=>exact absurd (wj (TM e)) h
theorem AU{s:Sc}{scope:U8}{a:Addr}
 (g: ∀h',h'.Ns s.heap.objs.size (λ_=>ξ)->(∀b o,s.heap.get? b=p5 o->h'.get? b=p5 o)->CellsOk h' (s.heap.objs.size+1) (UK (s.heap.objs.size+1) scope.names [])->
   Q (newEnv scope s.heap.objs.size a (UK (s.heap.objs.size+1) scope.names closure) qual ξ .none (p5 outer) jab) {s with heap:=h',toks:=s.toks}):
 Sy M A (Yd scope a closure [] qual ξ .none (p5 outer)) Q E s:=by
 simp only[Yd,jad,if_true];refine R8 (jbC ?_);refine R8 (wpAny_layCells _ (λname d c=>by rfl) _ _ _ _ ?_);have ok:=cellsFrom_ok scope.names (s.heap.push {cls:=.type "dict",data:=.dict #[]}) (s.heap.objs.size+1) [] ⟨λ_ _ f=>(nomatch f),Wh⟩ (by simp);rw[UJ] at ok;rw[show({s with heap:=s.heap.push {cls:=.type "dict",data:=.dict #[]}}:Sc).heap.objs.size=s.heap.objs.size+1 from UJ ..];rw[List.forIn_nil];refine R8 (Sa (Sa ?_));exact g _ ((Heap.Ns.new s.heap (.type "dict")).keeps (pushCells_keeps _ _)) (λb o e=>pushCells_keeps _ _ b o (Sd _ e)) ok
def aE(X:Cx)(N':List Str)(scope:U8)(C:Addr)(s₀:Sc)(H₀:Hp)(ex:List Addr):Cx where
 prog:=X.prog
 w:=X.w
 K:=X.K
 mg:=X.mg
 base:=X.base
 A:=X.A
 N:=N'
 s₀:=s₀
 H₀:=H₀
 env:=jaG scope (rF X.env.cells scope C) C X.env
 outer:=X.stack
 stack:=X.stack
 ex:=ex
 fn:=λx=>scope.names.lookup x==p5 .local||scope.names.lookup x==p5 .cell
 calm:=X.calm
 pn:=[]
 xe:=λ_ _=>False
def BP(N N':List Str)(a:U8):Bool:=
 decide (N.length<=N'.length)&&((N'.take N.length).zip N).all (λp=>(p.1==p.2&& !(a.names.lookup p.1==p5 .local)&& !(a.names.lookup p.1==p5 .cell))||(a.names.lookup p.1).isNone)&&
  (N'.drop N.length).all λx=>a.names.lookup x==p5 .local||a.names.lookup x==p5 .cell
def BC(b:U8)(a:U8):Bool:=
 b.names.all λy=>(y.2 != .cell||b.names.lookup y.1==p5 .cell)&&(y.2 != .local||b.names.lookup y.1==p5 .local)&&(y.2 != .free||(b.names.lookup y.1==p5 .free&&(a.names.lookup y.1==p5 .cell||a.names.lookup y.1==p5 .free)))
theorem xO {a o:U8}(h:BC a o=ζ): ∀y∈a.names,y.2=.cell->a.names.lookup y.1=p5 .cell:=λy b e=>by
 have:=TQ.mp h y b;lia
theorem jO {a o:U8}(h:BC a o=ζ): ∀y∈a.names,y.2=.local->a.names.lookup y.1=p5 .local:=λy b e=>by
 have:=TQ.mp h y b;grind
theorem g9 {a o:U8}(h:BC a o=ζ): ∀x,(x,UH)∈a.names->o.names.lookup x=p5 .cell\/o.names.lookup x=p5 .free:=λx b=>by
 have:=TQ.mp h _ b;nofun
theorem tT {a o:U8}(h:BC a o=ζ): ∀x,(x,UH)∈a.names->a.names.lookup x=p5 .free:=λx b=>by
 have:=TQ.mp h _ b;grind
theorem CL {N N':List Str}{a:U8}(h:BP N N' a=ζ){i:Nat}(b:i<N.length)(e:N'[i]? =p5 x)(hv: ∃k,a.names.lookup x=p5 k/\(k=.local\/k=.cell\/k=.free)):N[i]? =p5 x/\a.names.lookup x=p5 .free:=by
 unfold BP at h;simp only[TL,zk] at h;obtain⟨⟨f,j⟩,_⟩:=h;have d:N[i]? =p5 N[i]:=Su b;have c:(N'.take N.length)[i]? =p5 x:=by rw[YB b];exact e
 have g:(x,N[i])∈(N'.take N.length).zip N:=by
  refine S5 (i:=i) ?_
  rw[UN];exact⟨c,d⟩
 grind
theorem Jd {N N':List Str}(h:BP N N' sc=ζ):N.length<=N'.length:=by
 unfold BP at h;grind
section
variable {X:Cx}{scope:U8}{N':List Str}
theorem C5(I:Inv X aa σ H s)(f:iT X aa H b):b∉frs X.stack:=λz=>by
 rcases SU.mp (I.stkSub b z) with e|z
 ·exact f.2.1 e
 ·exact f.2.2.1 z
theorem xk {h':Heap}{tk:Nat}(I:Inv X aa σ H s)(hF: ∀b∈fp,iT X aa H b)(hO: ∀b∈fp,∃o,s.heap.get? b=p5 o)(hk:scope.kind=.function)(hs:BC scope X.env.scope=ζ)(hn:BP X.N N' scope=ζ)
 (ns:h'.Ns s.heap.objs.size λ_=>ξ) (kp: ∀b o,s.heap.get? b=p5 o->h'.get? b=p5 o) (oc:CellsOk h' (s.heap.objs.size+1) (UK (s.heap.objs.size+1) scope.names [])):
 Inv (aE X N' scope s.heap.objs.size s H fp) [] (σ++SA (N'.length-X.N.length) ξ) H {s with heap:=h',toks:=tk}:=by
 have hlen:=Jd hn;have cl: ∀x c,(wY X.env.cells scope.names []).lookup x=p5 c->X.env.cells.lookup x=p5 c:=λx c e=>yW e
 have clt: ∀x c,(wY X.env.cells scope.names []).lookup x=p5 c->c<s.heap.objs.size:=λx c e=>let⟨_,z⟩:=I.cell x c (cl x c e);z.lt
 have newC:H s.heap.objs.size=none:=I.hok.fresh (Sn _)
 refine⟨⟨I.ok.mod,hk,I.ok.glob,I.ok.blt,Sn _,λx y c h1 h2=>?_,λx hx=>?_,λx c h1 h2=>?_,I.ok.hd,I.ok.frames,.inl rfl,λb hb=>⟨?_,λx c e=>?_⟩,I.bs,Tk I.ok.bsz I.sz,λb o e hb=>?_,λb hb=>C5 I (hF b hb),I.stack,I.stkFree⟩,
  rfl,I.bare,Un.kept kp,⟨_,ns,λi x v e1 e2 e3=>?_⟩,λx c e=>?_,newC,λx c e=>?_,λp hp=>absurd (show p∈([]:List (Addr×Obj)) from hp) (by simp),I.hok.kept kp,?_⟩
 ·
  rcases eP h1 with h1|h1<;>rcases eP h2 with h2|h2
  ·exact name_of_addr oc.apart h1 h2
  ·exact absurd (clt y c h2) (V1.mpr (Wj (oc.empty _ _ h1).2))
  ·exact absurd (clt x c h1) (V1.mpr (Wj (oc.empty _ _ h2).2))
  ·exact I.ok.inj x y c (cl x c h1) (cl y c h2)
 ·
  have hx':(Xy scope X.env).names.lookup x=p5 .cell\/(Xy scope X.env).names.lookup x=p5 .free:=hx;have:(x,WI)∈scope.names\/(x,UH)∈scope.names:=by
   rcases hx' with hx'|hx'
   ·grind[iq,TM]
   grind[iq,TM]
  rcases this with this|this
  ·exact EZ this
  ·have hc:=g9 hs x this;obtain⟨c,e⟩:=I.ok.has x hc;exact⟨c,(x0 λz=>by have z1:=xO hs _ z rfl;have z2:=tT hs x this;nofun).trans (oD e this)⟩
 ·
  have h1':scope.names.lookup x=p5 .local\/scope.names.lookup x=p5 .cell:=by
   have h1:(scope.names.lookup x==p5 .local||scope.names.lookup x==p5 .cell)=true:=h1;nofun
  rcases eP h2 with h2|h2
  ·exact Wj (oc.empty _ _ h2).2
  ·exfalso;rcases yN _ (TM h2) with z|z
   ·nofun
   ·rw[tT hs x z] at h1';nofun
 ·obtain⟨o,e⟩:=hO b hb;exact SW (Sw e)
 ·rcases eP e with e|e
  ·obtain⟨o,e'⟩:=hO b hb;exact λz=>absurd (Sw e') (V1.mpr (z▸Wj (oc.empty _ _ e).2))
  ·exact(hF b hb).2.2.2.2.1 x c (cl x c e)
 ·obtain⟨_,_,_,h4,_⟩:=hF b hb;rcases h4 with h4|h4
  ·exact I.ok.noex b o e h4
  ·exact absurd (SH (Sw e) (Tk I.ok.bsz h4)) (Tv _)
 ·have hi:i<X.N.length:=by
   by_cases hi:i<σ.length
   ·rw[<-I.len];exact hi
   ·rw[T5 (by nofun),Ui] at e2;nofun
  rw[Tu (by rw[I.len];exact hi)] at e2;have e3':(Xy scope X.env).names.lookup x=p5 .local\/(Xy scope X.env).names.lookup x=p5 .cell\/(Xy scope X.env).names.lookup x=p5 .free:=e3;have hv: ∃k,scope.names.lookup x=p5 k/\(k=.local\/k=.cell\/k=.free):=by
   rcases e3' with z|z|z
   all_goals
    obtain⟨k0,q0,q1|⟨q1,q2⟩⟩:=iq z
    ·nofun
    nofun
  obtain⟨hN,hf⟩:=CL hn hi e1 hv;have hfm:=TM hf;have hc:=g9 hs x hfm;have nc:(x,WI)∉scope.names:=λz=>by have z1:=xO hs _ z rfl;nofun
  obtain⟨m,hm,hl⟩:=I.loc;obtain⟨u,r,l⟩:=hl i x v hN e2 (.inr hc);refine⟨u,r,.inr ⟨?_,?_⟩⟩
  ·show(Xy scope X.env).names.lookup x=p5 .cell\/(Xy scope X.env).names.lookup x=p5 .free;grind[iq]
  ·rcases l with⟨l,_⟩|⟨_,c,ec,z⟩
   ·have l':X.env.scope.names.lookup x=p5 .local:=l;nofun
   ·exact⟨c,(x0 nc).trans (oD ec hfm),z.keeps kp⟩
 ·rcases eP e with e|e
  ·exact⟨_,(oc.empty _ _ e).1⟩
  ·obtain⟨v,z⟩:=I.cell x c (cl x c e);exact⟨v,z.keeps kp⟩
 ·rcases eP e with e|e
  ·exact I.hok.fresh (Wj (oc.empty _ _ e).2)
  ·exact I.freeC x c (cl x c e)
 ·show(σ++_).length=N'.length;rw[SG,Zr,I.len];nofun
end
def Qr(K:Sf)(c:Ct)(hid:bv)(f:FA)(ρ:aC):TI:=λσ H R=>SR K c hid ρ σ H/\ ∃ds,f ρ=p5 ds/\ ∀J a,ab H a->rl K (vw a hid) J ds->R J a
def DIp(X:Cx)(c:Ct)(b a:Expr)(f:FA):Prop:= ∀hid ρ,PI X b a (Qr X.K c hid f ρ)
def Ou {ι:Type}(IR:Hp->V->ι->Prop)(L W:Hp)(J:It)(ds:List ι):Prop:=
 (∀(i:Nat) (d:ι) (H:Hp),ds[i]? =p5 d->ab L H->ab W H->J.go i H/\ ∀x a,J.yld i H x a->ab H a/\ ∀hid:bv,(∀b,hid b=ζ-> ∃o,H b=p5 o)->ab W (vw H hid)->IR (vw a hid) x d)/\ ∀H,ab L H->ab W H->J.stop ds.length H
abbrev NI(K:Sf)(L W:Hp)(J:It)(ds:List D):Prop:=Ou (Rep K) L W J ds
theorem rl.b {K:Sf}(h:rl K W J ds):NI K L W J ds:=⟨λi d H e _ w=>h.1 i d H e w,λH _ w=>h.2 H w⟩
def Rp {ι:Type}(IR:Hp->V->ι->Prop)(K:Sf)(c:Ct)(hid:bv)(f:aC->Option (List ι))(ρ:aC):TI:=λσ H R=>SR K c hid ρ σ H/\ ∃ds,f ρ=p5 ds/\ ∀J a,ab H a->Ou IR a (vw a hid) J ds->R J a
def Rt {ι:Type}(IR:Hp->V->ι->Prop)(X:Cx)(c:Ct)(b a:Expr)(f:aC->Option (List ι)):Prop:= ∀hid ρ,PI X b a (Rp IR X.K c hid f ρ)
abbrev Ks(X:Cx)(c:Ct)(b a:Expr)(f:FA):Prop:=Rt (Rep X.K) X c b a f
section
variable {X:Cx}{c:Ct}{iter:Expr}
theorem DIp.b(h:DIp X c tg iter f):Ks X c tg iter f:=λhid ρ=>PI.imp (h hid ρ) λσ H R ⟨a,ds,e,q⟩=>⟨a,ds,e,λJ d s g=>q J d s g.b⟩
theorem DIp.e(h:DIp X c tg iter f):DI X c tg iter (cV f):=λhid ρ=>PI.imp (h hid ρ) λσ H R a=>by
 obtain⟨b,ds,ρ',e,q⟩:=a;obtain⟨g,rfl⟩:=xC e;exact⟨b,ds,g,λJ d s i=>q J d (.of s) (b.ext s) i⟩
def jE(f:FE):FA:=λρ=>(f ρ).bind λd=>match d with
 | .lst ds=>p5 ds
 |_=>ξ
def zc(f:FE):FA:=λρ=>(f ρ).bind λd=>match d with
 | .tup ds=>p5 ds
 |_=>ξ
theorem uq(h:jE f ρ=p5 ds):f ρ=p5 (.lst ds):=by
 unfold jE at h;cases e:f ρ with
 |none=>nofun
 |some d=>
  grind
theorem CW(h:zc f ρ=p5 ds):f ρ=p5 (.tup ds):=by
 unfold zc at h;cases e:f ρ with
 |none=>nofun
 |some d=>
  grind
theorem Fy {K:Sf}(b:SqL K W a xs)(f:Reps K W xs ds):rl K W (Qv K a) ds:=by
 refine⟨λi d H e s=>?_,λH s=>⟨_,s.seq b,by rw[f.length];simp⟩⟩;obtain⟨x,c,g⟩:=f.get e;refine⟨⟨_,x,s.seq b,c⟩,λy l ⟨h,k⟩=>?_⟩;subst h;have:=k _ (s.seq b);rw[c] at this;cases this;exact⟨ab.refl _,λhid _ j=>g.mono j⟩
theorem ee(h:DP X c .s iter f):DIp X c tg iter (jE f):=λhid ρ=>PI.imp (BB (h hid ρ)) λσ H R b=>by
 obtain⟨d,ds,e,q⟩:=b;refine⟨d,_,uq e,λv g s' r=>?_⟩;cases r with
 |lst a i=>have a:=SqL.of (K:=X.K) a;exact⟨_,rfl,⟨_,(cu _ _).seq a⟩,q _ g s' (Fy a i)⟩
theorem GV(h:DP X c .b iter f):Ks X c tg iter (jE f):=λhid ρ=>PI.imp (BB (h hid ρ)) λσ H R j=>by
 obtain⟨n,ds,e,q⟩:=j;refine⟨n,_,uq e,λv k s' r=>?_⟩;obtain⟨a,xs,rfl,g,l⟩:=dr.lst r;refine⟨a,rfl,⟨_,g⟩,q _ k s' ⟨λi d H e s w=>?_,λH s w=>⟨_,s.seq g,by rw[l.length];simp⟩⟩⟩;obtain⟨x,m,p⟩:=l.get e;refine⟨⟨_,x,s.seq g,m⟩,λy k ⟨u,t⟩=>?_⟩;subst u;have:=t _ (s.seq g);rw[m] at this;cases this;exact⟨ab.refl _,λhid _ o=>p.mono o⟩
theorem Bv(h:DP X c .s iter f):DIp X c tg iter (zc f):=λhid ρ=>PI.imp (MC (h hid ρ)) λσ H R a=>by
 obtain⟨d,ds,e,q⟩:=a;refine⟨d,_,CW e,λv g s' r=>?_⟩;cases r with
 |tup b i=>exact⟨_,rfl,⟨_,SqT.of (cu _ _ _ _ b)⟩,q _ g s' (FV (SqT.of b) i)⟩
def cC(f:FA):FA:=λρ=>(f ρ).bind λds=>match ds with
 | [.int j]=>if j.natAbs<4000000000 then p5 (C7 0 j.toNat) else ξ
 |_=>ξ
theorem bu{p:Pos}(j:X.mg "range"=ξ)(i:DA X c [a] f)(k:Gl X "range":=by rfl)(h:Sv [a] X.env=[(θ,eval a X.env)]:=by rfl):DIp X c tg (.Call (.Name "range" p) [a] [] pos) (cC f):=λhid ρ=>
 PI.imp (D7 k j (i hid ρ) h) λσ H R b=>by
  obtain⟨d,ds,e,q⟩:=b;unfold cC at e;cases e1:f ρ with
  |none=>nofun
  |some z=>
   rw[e1] at e;dsimp only[jbD] at e;split at e
   ·split at e
    ·cases e;refine⟨d,_,e1,λvs g s' r=>?_⟩;cases r with
     |cons r t=>cases t;cases r;exact⟨_,rfl,by grind,by grind,q _ g s' z8⟩
    nofun
   nofun
def lI(b:List Expr)(a:Env):Sem Bool:=forIn b ζ λc r=>if r=ζ then do let ok <-isTrue c a (eval c a);pure (ForInStep.yield ok) else pure (ForInStep.yield r)
def w6(X:Cx)(c:Ct)(a:List Expr)(p:FT):Prop:= ∀hid ρ (b:List (Addr×Obj)) (s:Sc) (σ:St) (H:Hp) (Q:Bool->Hp->Prop),Inv X b σ H s->Q6 X.K c hid p ρ σ H Q->Sy (model X.prog X.w) X.A (lI a X.env) (TP X b σ Q) X.xe s
def dH:FT:=λ_=>p5 ζ
theorem bA:w6 X c [] dH:=λhid ρ f s σ H Q I a=>by
 obtain⟨b,d,e,q⟩:=a;cases e;exact wpAny_tests_nil ⟨H,I,q H (ab.refl _)⟩
theorem gE(h:DT X c e p):w6 X c [e] p:=λhid ρ a s σ H Q I q=>wpAny_tests_one (h hid ρ a s σ H Q I q)
end
theorem iF{k a j:Expr}(I:Nat->Sc->Prop)
 (turn: ∀n s,I n s->Sy (model prog w) A (VX it) (λr b=>match r with
   |none=>R (.ok .next) b
   |some v=>Sy (model prog w) A (Vq a it v) (λ_ b=>Sy (model prog w) A (VS a env v) (λ_ i=>
     Sy (model prog w) A (lI ifs env) (λok d=>
      if ok=ζ then Sy (model prog w) A (eval k env) (λx g=>
       Sy (model prog w) A (call (.builtin "list.append") [acc,x]) (λ_ f=> ∃m,m<n/\I m f) (λ_ _=>False) g) (λ_ _=>False) d
      else∃m,m<n/\I m d) (λ_ _=>False) i) (λ_ _=>False) b) (λ_ _=>False) b) (λ_ _=>False) s)
 (n:Nat) (h:I n s):
 Vo (model prog w) A (.compLoop (.ListComp k [⟨a,j,ifs,0⟩] scope pos) 0 it acc env) R s:=by
 have no: ∀ {q:Sb->Sc->Prop} (x:Sb) (s:Sc),False->q x s:=λ_ _ z=>z.elim
 refine jaH rfl I (λn s t=>?_) n h;show Sy _ A ((jaI (.ListComp k [⟨a,j,ifs,0⟩] scope pos) 0 it acc env).onRaise (λx=>do jbk x env;Zl x)) _ _ s;refine jbE ?_
 rw[compTurn_list];refine R8 (UW (R8 (Tl (turn n s t) (λr b c=>?_) no)));cases r with
 |none=>exact Sa c
 |some v=>
  refine R8 (Tl c (λ_ b c=>?_) no);refine R8 (Tl c (λ_ i p=>R8 (Tl p (λok d e=>?_) no)) no);cases ok with
  |false=>exact Sa ⟨rfl,e⟩
  |true=>
   exact R8 (R8 (Tl e (λx g o=>R8 (Tl o (λ_ f l=>Sa (Sa ⟨rfl,l⟩)) no)) no))
def cY {ι:Type}(g:ι->aC->Option aC)(p:FT)(f:FE)(a:aC):List ι->Option (List D)
 | []=>p5 []
 |d::r=>(g d a).bind λρ1=>(p ρ1).bind λb=>if b=ζ then(f ρ1).bind λy=>(cY g p f a r).map (y:: ·) else cY g p f a r
def bm {ι:Type}(m:Nat)(a:aC->Option (List ι))(g:ι->aC->Option aC)(p:FT)(f:FE):FE:=λρ=>(a ρ).bind λds=>if ds.length<=SC then(cY g p f (ρ++SA m .no) ds).map D.lst else ξ
theorem pZ {ι:Type}{m:Nat}{a:aC->Option (List ι)}{g:ι->aC->Option aC}{p:FT}{f:FE}{ρ:aC}{d:D}(h:bm m a g p f ρ=p5 d): ∃ds ys,a ρ=p5 ds/\ds.length<=SC/\cY g p f (ρ++SA m .no) ds=p5 ys/\d=.lst ys:=by
 unfold bm at h;cases e1:a ρ with
 |none=>nofun
 |some ds=>
  rw[e1] at h;dsimp only[jbD] at h;split at h
  ·cases e2:cY g p f (ρ++SA m .no) ds with
   |none=>nofun
   |some ys=>nofun
  nofun
def iB {ι:Type}(n:Nat)(g:ι->aC->Option aC):Prop:= ∀d (a ρ1:aC),g d a=p5 ρ1->ρ1.length=a.length/\ ∀i:Nat,i<n->ρ1[i]? =a[i]?
def Ci(n:Nat)(g:wX):Prop:= ∀d (a ρ1:aC),g d a=p5 ρ1->ρ1.length=a.length/\ ∀i:Nat,i<n->ρ1[i]? =a[i]?
theorem a8 {n i:Nat}(h:n<=i):iB n (gN i):=λd a ρ1 e=>by
 cases e;exact⟨by simp,λj b=>SD ⋯⟩
theorem eX {n:Nat}:Ci n kZ:=λd a ρ1 e=>by
 unfold kZ at e;lia
theorem br {n:Nat}(c:iB n g)(f:Ci n gs):Ci n (gp g gs):=λd a ρ1 e=>by
 cases d with
 |nil=>cases e
 |cons d ds=>
  have e:(g d a).bind (λρ'=>gs ds ρ')=p5 ρ1:=e;cases e1:g d a with
  |none=>nofun
  |some ρ2=>
   rw[e1] at e;obtain⟨k,h⟩:=c d a ρ2 e1;obtain⟨l,j⟩:=f ds ρ2 ρ1 e;exact⟨l.trans k,λi b=>(j i b).trans (h i b)⟩
theorem kO {n m:Nat}(h:Ci n gs):iB n (gT m gs):=λd a ρ1 e=>by
 unfold gT at e;split at e
 ·split at e
  ·exact h _ _ _ e
  nofun
 nofun
theorem SR.forget {K:Sf}{b ρ1:aC}{H:Hp}(h:SR K c hid ρ1 σ H)(k:ρ1.length=b.length)(d: ∀(i:Nat) (s:Sl),b[i]? =p5 s->s=.no\/ρ1[i]? =p5 s):SR K c hid b σ H:=by
 have f: ∀i:Nat,Ow b[i]? ->Ow ρ1[i]? :=λi o=>by
  cases e:b[i]? with
  |none=>rw[e] at o;exact o.elim
  |some s=>
   rcases d i s e with rfl|z
   ·rw[e] at o;exact o.elim
   nofun
 refine⟨h.tr,h.ht,h.h0,h.kp,h.t0,h.c0,h.m0,h.len.trans k,λi s e=>?_,λi j a n l g=>h.ap i j a n (f i l) (f j g)⟩;rcases d i s e with rfl|z
 ·trivial
 ·exact h.sl i s z
theorem SR.more {K:Sf}{σ:St}(h:SR K c hid ρ σ H)(m:Nat):SR K c hid (ρ++SA m .no) (σ++SA m ξ) H:=by
 have lt: ∀ {i:Nat},Ow (ρ++SA m Sl.no)[i]? ->i<ρ.length:=λ{i} o=>by
  by_cases k:i<ρ.length
  ·exact k
  ·rw[T5 (by nofun),Ui] at o;split at o<;>exact o.elim
 refine⟨h.tr,h.ht,h.h0,h.kp,h.t0,h.c0,h.m0,by simp[h.len],λi s e=>?_,λi j a n p l u q=>?_⟩
 ·by_cases k:i<ρ.length
  ·rw[Tu k] at e;have z:=h.sl i s e;have es:(σ++SA m ξ)[i]? =σ[i]? :=Tu (by rw[h.len];exact k);cases s with
   |no=>trivial
   |v d=>obtain⟨x,f,g⟩:=z;exact⟨x,es.trans f,g⟩
   |own ds=>obtain⟨a,xs,f,g⟩:=z;exact⟨a,xs,es.trans f,g⟩
   |arg ds=>obtain⟨a,xs,f,g⟩:=z;exact⟨a,xs,es.trans f,g⟩
   |ob b=>obtain⟨a,f,g⟩:=z;exact⟨a,es.trans f,g⟩
  ·rw[T5 (by nofun),Ui] at e;split at e
   ·cases e;trivial
   nofun
 ·have r:=lt p;have t:=lt l;rw[Tu r] at p;rw[Tu t] at l;rw[Tu (by rw[h.len];exact r)] at u;rw[Tu (by rw[h.len];exact t)] at q;exact h.ap i j a n p l u q
section
variable {X:Cx}{c:Ct}{iter:Expr}{scope:U8}{N':List Str}{ι:Type}{g:ι->aC->Option aC}{p:FT}{f:FE}
theorem SR.write {K:Sf}{σ:St}(h:SR K c hid ρ σ H)(l:hid a=ζ)(C:c.H₀ a=ξ)(I: ∀i:Nat,Ow ρ[i]? ->σ[i]? ≠p5 (p5 (.ref a)))(D:H a=p5 o)(E: ∀p u,o≠ .nst p u:=by intro _ _ e;cases e)(J: ∀xs,o'≠ .tup xs:=by intro _ e;cases e):SR K c hid ρ σ (aV H a o'):=by
 have k: ∀b o,H b=p5 o-> ∃n,(aV H a o') b=p5 n:=λb o q=>by
  grind[aA,az]
 refine⟨λb A=>let⟨o,q⟩:=h.tr b A;k b o q,λb xs A q=>by
  by_cases e:b=a
  ·grind[aA]
  ·rw[az e] at q;exact h.ht b xs A q,h.h0,λb o q m=>?_,λb o q=>let⟨n,q2⟩:=h.t0 b o q;k b n q2,h.c0,h.m0,h.len,λi s e=>?_,h.ap⟩
 ·rw[az (bV q C)];exact h.kp b o q m
 ·have z:=h.sl i s e;have y: ∀f,Ow ρ[i]? ->σ[i]? =p5 (p5 (.ref f))->f≠a:=λf o q w=>by nofun
  cases s with
  |no=>trivial
  |v d=>obtain⟨x,g,j⟩:=z;exact⟨x,g,by rw[cm l];exact j⟩
  |own ds=>obtain⟨f,xs,g,j,r,t,B⟩:=z;exact⟨f,xs,g,by rw[az (y f (by rw[e];trivial) g)];exact j,r,t,by rw[cm l];exact B⟩
  |arg ds=>obtain⟨f,xs,g,j,r,t,B⟩:=z;exact⟨f,xs,g,by rw[az (y f (by rw[e];trivial) g)];exact j,r,t,by rw[cm l];exact B⟩
  |ob b=>obtain⟨f,g,j⟩:=z;exact⟨f,g,j.mono (λF x G o q=>by rw[az (G.ne (y f (by rw[e];exact F) g) D E)];exact q) (by rw[cm l];exact ab.refl _) λ_ _ _ q=>q⟩
structure CLI(Y:Cx)(K:Sf)(c:Ct)(hid:bv)(ρ0:aC)(H W:Hp)(D0:Addr)(fp:List Addr)(tn:Nat->Heap->Prop){ι:Type}(g:ι->aC->Option aC)(p:FT)(f:FE)(ds:List ι)(ys:List D)(n i:Nat)(xs:List V)(ad:List D)(σ':St)(H':Hp)(s':Sc):Prop where
 e:n=ds.length-i
 hi:i<=ds.length
 I:Inv Y [] σ' H' s'
 st:tn i s'.heap
 fr: ∀b∈fp,H' b=ξ
 sr:SR K c hid ρ0 σ' H'
 sm:ab H H'
 ac:H' D0=p5 (.lst xs)
 rp:Reps K (vw H' hid) xs ad
 w:ab W (vw H' hid)
 hl:xs.length<=i
 na: ∀i:Nat,Ow ρ0[i]? ->σ'[i]? ≠p5 (p5 (.ref D0))
 go: ∃rest,cY g p f ρ0 (ds.drop i)=p5 rest/\ad++rest=ys
theorem Db(S:X.calm=ζ)(hT:iB X.N.length g)
 (hg: ∀C E B ex,Qj IR (aE X N' scope C E B ex) c tg g) (hp: ∀C E B ex,w6 (aE X N' scope C E B ex) c ifs p) (he: ∀C E B ex,DP (aE X N' scope C E B ex) c .s elt f) {H t:Hp} {M s4:Sc} {hid:bv} {ρ:aC} {ds:List ι} {W:Hp} (hρ:ρ.length=X.N.length)
 (I:Inv (aE X N' scope C M t fp) [] σ3 t s4) (sr:SR X.K c hid (ρ++SA m .no) σ3 t) (hh:hid D0=ζ) (h00:c.H₀ D0=ξ) (na: ∀i:Nat,Ow (ρ++SA m Sl.no)[i]? ->σ3[i]? ≠p5 (p5 (.ref D0))) (hacc:t D0=p5 (.lst [])) (sm:ab H t) (nD:H D0=ξ) (wv:ab W (vw t hid)) (T:rb X.prog X.w X.K tg J fp it tn) (st:tn 0 s4.heap) (hF: ∀b∈fp,t b=ξ)
 (io:Ou IR H W J ds) (hz:ds.length<=SC) (hc:cY g p f (ρ++SA m .no) ds=p5 ys)
 (hR: ∀(s':Sc) (d:St) (h:Hp) (xs:List V),Inv (aE X N' scope C M t fp) [] d h s'->ab H h->h D0=p5 (.lst xs)->Reps X.K (vw h hid) xs ys->R (.ok .next) s'):
 Vo (model X.prog X.w) X.A (.compLoop (.ListComp elt [⟨tg,iter,ifs,0⟩] scope pos) 0 (.ref it) (.ref D0) (jaG scope (rF X.env.cells scope C) C X.env)) R s4:=by
 have Q: ∀ {aa:List (Addr×Obj)} {h:Hp},(∀q∈aa,q.1∉fp)->(∀b∈fp,h b=ξ)-> ∀b∈fp,iT (aE X N' scope C M t fp) aa h b:=λ{aa h} hpn hn b Z=>
  ⟨hn b Z,(I.ok.exf b Z).1,I.ok.exfs b Z,.inl Z,(I.ok.exf b Z).2,λq hq e=>hpn q (by have hq':q∈([]:List (Addr×Obj))++aa:=hq;nofun) (by nofun)⟩
 have no: ∀q∈([]:List (Addr×Obj)),q.1∉fp:=λq hq=>nomatch hq
 refine iF (λn s'=> ∃(i:Nat) (xs:List V) (ad:List D) (d:St) (h:Hp),CLI (aE X N' scope C M t fp) X.K c hid (ρ++SA m .no) H W D0 fp tn g p f ds ys n i xs ad d h s') ?_ ds.length
  ⟨0,[],[],σ3,t,by rfl,Uv _,I,st,hF,sr,sm,hacc,.nil,wv,Uv _,na,ys,by simpa using hc,rfl⟩
 rintro n s5 ⟨i,xs,ad,O,H5,rfl,hi,I5,st5,f5,sr5,U,ac5,rp5,w5,hl5,na5,l,a,hy5⟩;have wH:ab W H5:=w5.trans (cu _ _)
 by_cases hlt:i<ds.length
 ·have hd:ds[i]? =p5 ds[i]:=Su hlt;have e2:ds.drop i=ds[i]::ds.drop (i+1):=WB hlt;rw[e2] at a;unfold cY at a;obtain⟨go,yl⟩:=io.1 i ds[i] H5 hd U wH;refine bC (T.item (aE X N' scope C M t fp) rfl rfl rfl S i [] s5 O H5 (λ_ _=>False) I5 (Q no f5) st5 go) λr s6 k=>?_
  obtain⟨u,hr,h6⟩:=k;subst hr;refine bC h6 λ_ s7 k=>?_
  obtain⟨x,H7,I7,r7,y7,st7,f7⟩:=k;obtain⟨P,rp⟩:=yl x H7 y7;have rx:=rp hid sr5.tr w5;have I7':=I7.pinned (Q no f7) (T.obj _ _ st7);cases e3:g ds[i] (ρ++SA m .no) with
  |none=>nofun
  |some ρ1=>
   rw[e3] at a;have a:(p ρ1).bind (λb=>if b=ζ then(f ρ1).bind λy=>(cY g p f (ρ++SA m .no) (ds.drop (i+1))).map (y:: ·) else cY g p f (ρ++SA m .no) (ds.drop (i+1)))=p5 l:=a;obtain⟨tl1,tl2⟩:=hT _ _ _ e3;have fg: ∀ {d:St} {h:Hp},SR X.K c hid ρ1 d h->SR X.K c hid (ρ++SA m .no) d h:=λ{d h} z=>z.forget tl1 λj s e=>by
    grind
   have Y: ∀ {d:St} {h:Hp} {s':Sc},Inv (aE X N' scope C M t fp) ([]++nR fp s7.heap) d h s'->tn (i+1) s'.heap/\ ∀b∈fp,h b=none:=λ{d h s'} J'=>by
    refine⟨T.keep _ _ _ st7 λb Z o e=>(J'.pin (b,o) (Tj _ (Tj _ (eW Z e)))).1,λb Z=>?_⟩;obtain⟨o,e,_⟩:=T.obj _ _ st7 b Z;exact(J'.pin (b,o) (Tj _ (Tj _ (eW Z e)))).2.1
   refine bC (hg C M t fp hid _ ds[i] _ s7 O H7 x u (λd h=>h=H7/\SR X.K c hid ρ1 d H7/\OwK (ρ++SA m .no) ρ1 O d) I7' r7 ⟨sr5.ext P,rx,ρ1,e3,λd z o=>⟨rfl,z,o⟩⟩) λ_ s8 k=>?_
   obtain⟨L,H8,I8,e8,q8,o8⟩:=k;subst e8;have na8: ∀i:Nat,Ow (ρ++SA m Sl.no)[i]? ->L[i]? ≠p5 (p5 (.ref D0)):=λj o=>by
    have o1:Ow ρ1[j]? :=by
     by_cases hj:j<X.N.length
     ·nofun
     ·exfalso;rw[T5 (by nofun),Ui] at o;split at o<;>exact o.elim
    rw[(o8 j o1).2];exact na5 j o
   cases e4:p ρ1 with
   |none=>nofun
   |some b=>
    rw[e4] at a;have a:(if b=ζ then(f ρ1).bind λy=>(cY g p f (ρ++SA m .no) (ds.drop (i+1))).map (y:: ·) else cY g p f (ρ++SA m .no) (ds.drop (i+1)))=p5 l:=a;refine bC (hp C M t fp hid ρ1 _ s8 L H8 (λb' h=>b'=b/\ab H8 h) I8 ⟨q8,b,e4,λh s'=>⟨rfl,s'⟩⟩) λok s9 k=>?_
    obtain⟨H9,I9,e9,G⟩:=k;subst e9;have w9:ab (vw H5 hid) (vw H9 hid):=aH (P.trans G);cases ok with
    |false=>
     have a:cY g p f (ρ++SA m .no) (ds.drop (i+1))=p5 l:=a;obtain⟨k1,k2⟩:=Y I9;exact⟨ds.length- (i+1),by grind,i+1,xs,ad,L,H9,rfl,hlt,I9.unpinned,k1,k2,fg (q8.ext G),U.trans (P.trans G),G _ _ (P _ _ ac5),rp5.mono w9,w5.trans w9,⋯,na8,l,a,hy5⟩
    |true=>
     have a:((f ρ1).bind λy=>(cY g p f (ρ++SA m .no) (ds.drop (i+1))).map (y:: ·))=p5 l:=a;cases e5:f ρ1 with
     |none=>nofun
     |some y=>
      rw[e5] at a;have a:(cY g p f (ρ++SA m .no) (ds.drop (i+1))).map (y:: ·)=p5 l:=a;cases e6:cY g p f (ρ++SA m .no) (ds.drop (i+1)) with
      |none=>nofun
      |some rest'=>
       rw[e6] at a;cases a;show Sy (model X.prog X.w) X.A (eval elt _) _ _ s9;refine bC (he C M t fp hid ρ1 _ s9 L H9 (λv h=>ab H9 h/\Rep X.K (vw h hid) v y) I9 ⟨q8.ext G,y,e5,λv h s' r=>⟨s',r⟩⟩) λv s10 k=>?_
       obtain⟨z,F,I10,rz,sm10,rp10⟩:=k;have sm':ab H5 F:=P.trans (G.trans sm10);have a10:F D0=p5 (.lst xs):=sm' _ _ ac5;refine bC (eV (X:=aE X N' scope C M t fp) _ s10 L F (.ref D0) [z] (.ref D0) [v] (λ_ h=>h=aV F D0 (.lst (xs++[z]))) I10 rfl (.cons rz .nil) ⟨D0,xs,z,rfl,rfl,a10,by grind,rfl⟩) λ_ s11 ⟨_,H11,I11,_,e11⟩=>?_
       subst e11;obtain⟨k1,k2⟩:=Y I11;have vv:vw (aV F D0 (.lst (xs++[z]))) hid=vw F hid:=cm hh;have w10:ab (vw H5 hid) (vw F hid):=aH sm';refine⟨ds.length- (i+1),by grind,i+1,xs++[z],ad++[y],L,_,rfl,hlt,I11.unpinned,k1,k2,?_,λb o e=>?_,aA,?_,?_,by nofun,na8,rest',e6,by nofun⟩
       ·
        have q10:=fg ((q8.ext G).ext sm10);exact q10.write hh h00 na8 a10
       ·rw[az (bV e nD)];exact sm' _ _ (U _ _ e)
       ·rw[vv];exact(rp5.mono w10).append (.cons rp10 .nil)
       ·rw[vv];exact w5.trans w10
 ·have e:i=ds.length:=by lia
  subst e;rw[W3 (Sn _)] at a;cases a;rw[TZ] at hy5;subst hy5;refine bC (T.done (aE X N' scope C M t fp) rfl rfl rfl S ds.length [] s5 O H5 (λ_ _=>False) I5 (Q no f5) st5 (io.2 H5 U wH)) λr s6 k=>?_
  obtain⟨hr,I6⟩:=k;subst hr;exact hR s6 O H5 xs I6 U ac5 rp5
theorem qK(x:X.calm=ζ)(hk:scope.kind=.function)(hs:BC scope X.env.scope=ζ)(hn:BP X.N N' scope=ζ)(Z:N'.length-X.N.length=m)(hT:iB X.N.length g)
 (hg: ∀C h d F,Qj IR (aE X N' scope C h d F) c tg g) (hp: ∀C h d F,w6 (aE X N' scope C h d F) c ifs p) (he: ∀C h d F,DP (aE X N' scope C h d F) c .s elt f) {s:Sc} {ds:List ι} {RR:Sb->Addr->Y3->Sc->Prop}
 (I:Inv X aa σ H s) (L:SR X.K c hid ρ σ H) (T:rb X.prog X.w X.K tg J fp it tn) (st:tn 0 s.heap) (hF: ∀b∈fp,iT X aa H b) (io:Ou IR H (vw H hid) J ds) (hz:ds.length<=SC) (hc:cY g p f (ρ++SA m .no) ds=p5 ys)
 (hR: ∀(D C:Addr) (s':Sc) (t:Hp) (xs:List V),s.heap.objs.size<=D->s.heap.objs.size<=C->D≠C->H D=ξ->ab H t->t D=p5 (.lst xs)->Reps X.K (vw t (bI hid D)) xs ys->(∃m,s'.heap.Ns C m)->t C=ξ->s'.os=s.os->Xv s'.gens->HOk X.prog X.w t s'.heap->Un (frs X.stack) fp H t s.heap s'.heap->RR (.ref D) C (.ok .next) s'):
 Sy (model X.prog X.w) X.A (jaJ []) (λacc B=>Sy (model X.prog X.w) X.A (Yd scope X.env.globals (wY X.env.cells scope.names []) [] X.env.qual ξ .none (p5 X.env)) (λu P=>
  Vo (model X.prog X.w) X.A (.compStart (.ListComp elt [⟨tg,iter,ifs,0⟩] scope pos) 0 (.ref it) acc {u with scope:=Xy scope X.env}) (RR acc u.locals) P) E B) E s:=by
 refine TR (AU λq a n j=>?_);dsimp only at a n j⊢;generalize y:s.heap.push {cls:=.type "list",dict:=ξ,data:=.seq ([]:List Sb).toArray}=H2 at a n j⊢;have hC:H2.objs.size=s.heap.objs.size+1:=by rw[<-y,UJ]
 have l:H s.heap.objs.size=none:=I.hok.fresh (Sn _);have I2:Inv X aa σ (aV H s.heap.objs.size (.lst [])) {s with heap:=H2}:=by
  rw[<-y];exact I.laid (t':=s.toks) (λb o e=>Sd _ e) (Sn _) ⟨Uv _,[],0,.nil,Sj _ rfl⟩
 have M: ∀b∈fp,b<s.heap.objs.size:=λb k=>let⟨o,e,_⟩:=T.obj 0 s.heap st b k;Sw e
 have O: ∀b∈fp,iT X aa (aV H s.heap.objs.size (.lst [])) b:=λb k=>⟨by rw[az (SW (M b k))];exact(hF b k).1,(hF b k).2⟩
 have v: ∀b o,s.heap.get? b=p5 o->H2.get? b=p5 o:=λb o e=>by rw[<-y];exact Sd _ e
 have U:=xk (tk:=s.toks) (N':=N') (fp:=fp) I2 O (λb k=>let⟨o,e,_⟩:=T.obj 0 s.heap st b k;⟨o,v b o e⟩) hk hs hn a n j;rw[Z] at U;dsimp only at U;have Y:SR X.K c (bI hid s.heap.objs.size) (ρ++SA m .no) (σ++SA m ξ) (aV H s.heap.objs.size (.lst [])):=(L.hide (aM l _) l aA).more m;have XL:ρ.length=X.N.length:=by rw[<-L.len];exact I.len
 have nf:hid s.heap.objs.size=false:=L.fresh l;have G:tn 0 q:=T.keep _ _ _ st λb k o e=>n b o (v b o e)
 have Tm: ∀i:Nat,Ow (ρ++SA m Sl.no)[i]? ->(σ++SA m ξ)[i]? ≠p5 (p5 (V.ref s.heap.objs.size)):=(L.more m).notOw nf
 have wv:ab (vw H hid) (vw (aV H s.heap.objs.size (.lst [])) (bI hid s.heap.objs.size)):=by rw[vE l];exact ab.refl _
 have r: ∀R:Sc,R={s with heap:=q,toks:=s.toks}->
  Vo (model X.prog X.w) X.A (.compLoop (.ListComp elt [⟨tg,iter,ifs,0⟩] scope pos) 0 (.ref it) (.ref s.heap.objs.size) (jaG scope (rF X.env.cells scope H2.objs.size) H2.objs.size X.env)) (RR (.ref s.heap.objs.size) H2.objs.size) R:=by
  rintro R rfl;refine Db (H:=H) (hid:=bI hid s.heap.objs.size) (W:=vw H hid) x hT hg hp he XL U Y cQ (L.fresh0 l) Tm aA (aM l _) l wv T G (λb k=>(O b k).1) io hz hc ?_
  intro s' σ' t xs z ST Ty S;have Q:Un (frs X.stack) fp H (aV H s.heap.objs.size (.lst [])) s.heap H2:=Un.laid (λb o e=>v b o e) (Sn _) l;refine hR s.heap.objs.size H2.objs.size s' t xs (Sn _) (by nofun) (by nofun) l ST Ty S (let⟨m,Z,_⟩:=z.loc;⟨m,Z⟩) z.free z.os z.bare z.hok (Q.trans z.base)
 exact Zb (r _ rfl) (T.self X.A 0 _ _ _ G (r _ rfl))
theorem cw(r:X.calm=ζ)(hT:iB X.N.length g)(hi:Rt IR X c tg iter gi)
 (hg: ∀C a h B,Qj IR (aE X N' scope C a h B) c tg g) (hp: ∀C a h B,w6 (aE X N' scope C a h B) c ifs p) (he: ∀C a h B,DP (aE X N' scope C a h B) c .s elt f)
 (hk:scope.kind=.function:=by rfl) (R:BC scope X.env.scope=true:=by kernel_rfl) (hn:BP X.N N' scope=true:=by kernel_rfl) (hm:N'.length-X.N.length=m:=by rfl) (E: ∀x,TH iter X.env x=pure x:=by intro _;rfl):
 DP X c .n (.ListComp elt [⟨tg,iter,ifs,0⟩] scope pos) (bm m gi g p f):=by
 intro hid ρ aa s σ H Q I hq;obtain⟨sr,d,hd,q⟩:=hq;obtain⟨ds,ys,e1,hz,hc,rfl⟩:=pZ hd;rw[eval_ListComp];refine VD (use:=ξ) rfl E (eB λx S=>I.ok.has x (g9 R x S)) hk (jO R) ?_
 refine bC (hi hid ρ aa s σ H (λJ j=>ab H j/\Ou IR j (vw j hid) J ds) I ⟨sr,ds,e1,λJ j s1 U=>⟨s1,U⟩⟩) λv s1 G=>bC G λitv s2 y=>?_
 obtain⟨it,fp,tn,J,H2,rfl,I2,T,V,M,Y,U⟩:=y;refine qK (RR:=λacc C=>jcC (model X.prog X.w) X.A X.xe ξ (EP X aa σ Q) acc C) r hk R hn hm hT hg hp he I2 (sr.ext Y) T V M U hz hc ?_
 intro D C s' j xs hDge L hDC hD W S rp ⟨mm,P⟩ hC' ST l Z i;refine⟨mm,P,λh' k=>⟨.ref D,j,?_,rfl,q _ j (Y.trans W) ⟨D,xs,ys,rfl,rfl,Y.free hD,S,rp⟩⟩⟩;have t: ∀b o,s2.heap.get? b=p5 o->b≠C:=λb o e z=>by subst z;exact absurd (Sw e) (V1.mpr L)
 have K:Un (frs X.stack) fp H2 j s2.heap h':=⟨λb o e n G y=>(k.2 b (t b o e)).trans (i.keep b o e n G y),λb o e n G y=>let⟨sl,z⟩:=i.slot b o e n G y;⟨sl,(k.2 b (t b o e)).trans z⟩,i.free,λb o e y=>let⟨o',z⟩:=i.there b o e y;⟨o',(k.2 b (t b o e)).trans z⟩,i.tups,i.frzs,i.tbls⟩
 have F:HOk X.prog X.w j h':=λb o e=>by
  have nb: ∀b' o',j b'=p5 o'->b'≠C:=λb' o' e' z=>by nofun
  refine(Z b o e).stay (λc' u hc' z=>(k.2 c' ?_).trans z) (λ_ z=>z) λ_ _ z=>z
  lia
 exact I2.call' (s':={s' with heap:=h'}) (ch:=fp) ST K F l λb O=>⟨(M b O).2.2.2.1,(M b O).2.1,(M b O).2.2.2.2.1,(M b O).2.2.2.2.2⟩
end
section
variable {X:Cx}{iter:Expr}{scope:U8}{spos:Pos}{N':List Str}
theorem A5(i:Nat)(u:X.calm=ζ)(hN:X.N.Nodup)(hT:iB X.N.length g)(hi:Ks X c tg iter gi)
 (hg: ∀C j h G,wW (aE X N' scope C j h G) c tg g) (hp: ∀C j h G,w6 (aE X N' scope C j h G) c ifs p) (he: ∀C j h G,DP (aE X N' scope C j h G) c .s elt f)
 (hsw:UD (.ListComp elt [⟨tg,iter,ifs,0⟩] scope pos) (p5 (.Name y py)) spos.line X.env=pure ζ) (hyi:X.N[i]? =p5 y) (hy:X.env.scope.names.lookup y=p5 .local)
 (hk:scope.kind=.function) (U:BC scope X.env.scope=ζ) (hn:BP X.N N' scope=ζ) (hm:N'.length-X.N.length=m) (L: ∀x,TH iter X.env x=pure x) (ρ:aC):
 PS X (.Assign [.Name y py] (.ListComp elt [⟨tg,iter,ifs,0⟩] scope pos) spos) (IB (λσ H Q=> ∃hid,Me X.K c hid .n (bm m gi g p f) ρ σ H Q) (AQ i)):=by
 intro P s σ H E I M;obtain⟨hid,sr,d,hd,q⟩:=M;obtain⟨ds,ys,e1,hz,hc,rfl⟩:=pZ hd;rw[Zs _ _ _ _ hsw];refine R8 (UW (R8 ?_));show Sy _ X.A (do let _ <-comprehension (.ListComp elt [⟨tg,iter,ifs,0⟩] scope pos) scope X.env _ (jaJ []) false (eval iter X.env) (some (VS (.Name y py) X.env))) _ _ s;refine R8 (Tl (VD (use:=p5 (VS (.Name y py) X.env)) (Q:=λ_ s'=>SP X P E .next s') rfl L (eB λx W=>I.ok.has x (g9 U x W)) hk (jO U) ?_) (λ_ s' M=>Sa (Sa M)) λ_ _ e=>e);refine bC (hi hid ρ P s σ H (λJ l=>ab H l/\NI X.K l (vw l hid) J ds) I ⟨sr,ds,e1,λJ l s1 Z=>⟨s1,Z⟩⟩) λv s1 h1=>bC h1 λitv s2 h2=>?_
 obtain⟨it,fp,tn,J,H2,rfl,B,T,Tm,O,sm,Z⟩:=h2;refine qK (IR:=Rep X.K) (RR:=λacc C=>jcC (model X.prog X.w) X.A X.xe (p5 (VS (.Name y py) X.env)) (λ_ s'=>SP X P E .next s') acc C) u hk U hn hm hT hg hp he B (sr.ext sm) T Tm O Z hz hc ?_
 intro D C s' l xs hDge k hDC hD sm' W rp ⟨mm,R⟩ hC' hos t hok S;have I3:Inv X P σ l s':=B.call' (ch:=fp) hos S hok t λb F=>⟨(O b F).2.2.2.1,(O b F).2.1,(O b F).2.2.2.2.1,(O b F).2.2.2.2.2⟩
 have fin:=q _ l (sm.trans sm') ⟨D,xs,ys,rfl,rfl,sm.free hD,W,rp⟩;have r: ∀b o,s2.heap.get? b=p5 o->b≠C:=λb o e z=>by subst z;exact absurd (Sw e) (V1.mpr k)
 have Ty:C≠X.env.locals:=λz=>by
  have:=B.lt;rw[<-z] at this;exact absurd this (V1.mpr k)
 show Sy _ X.A (VS (.Name y py) X.env (.ref D)) _ _ s';refine Ym (nN (v:=.ref D) I3 hN hyi (.inl hy) rfl (λST I4 F=>?_) (.inr hy));obtain⟨a,XL,V⟩:=F;have hCa:C≠a:=by
  rcases V with rfl|V
  ·omega
  ·obtain⟨w',o,ho,_⟩:=B.cell y a V;exact λz=>r a o ho z.symm
 refine⟨mm,R.sameBut XL hCa,λh3 Y=>⟨_,l,?_,fin⟩⟩;refine I4.turned (t':=ST.toks) (it:=C) (λb o nb e=>(Y.2 b nb).trans e) hC' Ty (.inr (Tk B.sz k)) (λx c' e z=>?_) (λq M z=>?_)
 ·obtain⟨w',o,ho,_⟩:=B.cell x c' e;exact r c' o ho z
 ·exact r q.1 q.2 (B.pin q M).1 z
theorem KQ(i:Nat)(d:X.calm=ζ)(t:X.N.Nodup)(E:iB X.N.length g)(K:Ks X c tg iter gi)
 (G: ∀C a b h,wW (aE X N' scope C a b h) c tg g) (I: ∀C a b h,w6 (aE X N' scope C a b h) c ifs p) (u: ∀C a b h,DP (aE X N' scope C a b h) c .s elt f)
 (l:UD (.ListComp elt [⟨tg,iter,ifs,0⟩] scope pos) (p5 (.Name y py)) spos.line X.env=pure true:=by rfl) (j:X.N[i]? =p5 y:=by rfl) (w:X.env.scope.names.lookup y=p5 .local:=by rfl)
 (B:scope.kind=.function:=by rfl) (A:BC scope X.env.scope=true:=by kernel_rfl) (F:BP X.N N' scope=true:=by kernel_rfl) (J:N'.length-X.N.length=m:=by rfl) (e: ∀x,TH iter X.env x=pure x:=by intro _;rfl):
 DS X c k (.Assign [.Name y py] (.ListComp elt [⟨tg,iter,ifs,0⟩] scope pos) spos) (dW i (bm m gi g p f)):=λρ=>PS.imp (A5 i d t E K G I u l j w B A F J e ρ) λD σ H n=>by
 obtain⟨hid,o,q⟩:=n;unfold dW at q;cases e1:bm m gi g p f ρ with
 |none=>rw[e1] at q;exact q.elim
 |some z=>
  rw[e1] at q;exact⟨hid,o,z,e1,λv L s r=>Ji (o.post s r ()) q⟩
theorem uS(i:Nat)(e:X.calm=ζ)(w:X.N.Nodup)(O:iB X.N.length g)(K:Ks X c tg iter gi)
 (I: ∀C d b h,wW (aE X N' scope C d b h) c tg g) (B: ∀C d b h,w6 (aE X N' scope C d b h) c ifs p) (E: ∀C d b h,DP (aE X N' scope C d b h) c .s elt f)
 (u:UD (.ListComp elt [⟨tg,iter,ifs,0⟩] scope pos) (p5 (.Name y py)) spos.line X.env=pure true:=by rfl) (t:X.N[i]? =p5 y:=by rfl) (L:X.env.scope.names.lookup y=p5 .local:=by rfl)
 (M:scope.kind=.function:=by rfl) (A:BC scope X.env.scope=true:=by kernel_rfl) (F:BP X.N N' scope=true:=by kernel_rfl) (J:N'.length-X.N.length=m:=by rfl) (j: ∀x,TH iter X.env x=pure x:=by intro _;rfl):
 DS X c k (.Assign [.Name y py] (.ListComp elt [⟨tg,iter,ifs,0⟩] scope pos) spos) (bp i (bm m gi g p f)):=λρ=>PS.imp (A5 i e w O K I B E u t L M A F J j ρ) λD σ H l=>by
 obtain⟨hid,o,q⟩:=l;unfold bp at q;cases e1:bm m gi g p f ρ with
 |none=>rw[e1] at q;exact q.elim
 |some z=>
  rw[e1] at q;exact⟨hid,o,z,e1,λv G s r=>q _ G hid ((o.ext s).setV (RN.rep r λa n=>o.fresh n) i) (aH s)⟩
end
mutual
def gV:D->D->Bool
 | .int a=>λy=>match y with
   | .int b=>a==b
   |_=>θ
 | .tup a=>λy=>match y with
   | .tup b=>iS a b
   |_=>θ
 | .lst a=>λy=>match y with
   | .lst b=>iS a b
   |_=>θ
 |_=>λ_=>θ
def iS:List D->List D->Bool
 | [],[]=>ζ
 |x::xs,y::ys=>gV x y&&iS xs ys
 |_,_=>θ
end
mutual
def d5:D->Nat
 | .int _=>0
 | .tup a=>bJ a+1
 | .lst a=>bJ a+1
 |_=>S7
def bJ:List D->Nat
 | []=>0
 |x::xs=>max (d5 x) (bJ xs)
end
theorem qJ: ∀ {xs:List D} {i:Nat} {d:D},xs[i]? =p5 d->d5 d<=bJ xs
 | [],_,_,h=>by simp at h
 |x::xs,0,d,h=>by grind[bJ]
 |x::xs,i+1,d,h=>by
  have:=qJ (xs:=xs) (i:=i) (d:=d) (by simpa using h);grind[bJ]
mutual
theorem mx: ∀x:D,d5 x<S7->gV x x=ζ
 | .int a,_=>by simp[gV]
 | .tup a,h=>nM a (Vw h)
 | .lst a,h=>nM a (Vw h)
 | .non,h=>absurd h (Tv _)
 | .bl _,h=>absurd h (Tv _)
 | .str _,h=>absurd h (Tv _)
 | .scr _,h=>absurd h (Tv _)
 | .dct _ _,h=>absurd h (Tv _)
theorem nM: ∀x:List D,bJ x<S7->iS x x=ζ
 | [],_=>by rfl
 |x::xs,h=>by unfold iS;rw[mx x (SK (WN _ _) h),nM xs (SK (Wu _ _) h)];rfl
end
def rA(xs ys:List D)(j:Nat):Bool:=match xs[j]?,ys[j]? with
 |some x,some y=>gV x y
 |_,_=>θ
theorem uy {xs ys:List D}(h:xs.length=ys.length):(R9 xs.length).all (rA xs ys)=iS xs ys:=by
 induction xs generalizing ys with
 |nil=>
  grind[iS]
 |cons x xs a=>
  cases ys with
  |nil=>nofun
  |cons y ys=>
   rw[SN,V2,YE,jeC];grind[rA,iS]
theorem pU: ∀ {xs ys:List D},xs.length≠ys.length->iS xs ys=θ
 | [],[],h=>absurd rfl h
 | [],_::_,_=>by rfl
 |_::_,[],_=>by rfl
 |x::xs,y::ys,h=>by unfold iS;rw[pU (xs:=xs) (ys:=ys) (by nofun)];simp
section
variable {X:Cx}{H:Hp}{s:Sc}
theorem IM(I:Inv X aa σ H s){o:Obj}(h:H a=p5 (.frz o (.dT kvs))): ∃o,s.heap.get? a=p5 o/\o.cls=.type "dict":=by
 obtain⟨_,_,xs,_,o,es,ep,c,b,_⟩:=(show _/\b6 X.prog X.w H s.heap a (.dT kvs) from I.hok a _ h).2;exact⟨o,c,b.1⟩
mutual
theorem Rep.eqv(I:Inv X aa σ H s): ∀ {v:V} {x y:D},Rep X.K H v x->Rep X.K H v y->d5 x<S7->d5 y<S7->x=y
 |_,_,_,.int,q,_,_=>by cases q;rfl
 |_,_,_,.tup h r,q,a,b=>by
  cases q with
  |tup h' c=>rw[I.tuple_inj (SqT.of h) (SqT.of h')] at r;exact congrArg D.tup (Reps.eqv I r c (Vw a) (Vw b))
  |lst h'=>nofun
  |_=>exact absurd b (Tv _)
 |_,_,_,.lst h r,q,a,b=>by
  cases q with
  |lst h' c=>rw[I.list_inj (SqL.of h) (SqL.of h')] at r;exact congrArg D.lst (Reps.eqv I r c (Vw a) (Vw b))
  |tup h'=>nofun
  |_=>exact absurd b (Tv _)
 |_,_,_,.non,_,a,_=>absurd a (Tv _)
 |_,_,_,.bl,_,a,_=>absurd a (Tv _)
 |_,_,_,.str,_,a,_=>absurd a (Tv _)
 |_,_,_,.scr _ _,_,a,_=>absurd a (Tv _)
 |_,_,_,.dct _ _ _,_,a,_=>absurd a (Tv _)
theorem Reps.eqv(I:Inv X aa σ H s): ∀ {v:List V} {x y:List D},Reps X.K H v x->Reps X.K H v y->bJ x<S7->bJ y<S7->x=y
 |_,_,_,.nil,.nil,_,_=>rfl
 |_,_,_,.cons r t,.cons c t',a,b=>by
  rw[Rep.eqv I r c (SK (WN _ _) a) (SK (WN _ _) b),Reps.eqv I t t' (SK (Wu _ _) a) (SK (Wu _ _) b)]
end
theorem mM(I:Inv X aa σ H s){ds:List D}(h:SqL X.K H a xs)(r:Reps X.K H xs ds): ∃b:List Sb,s.heap.IsList a b.toArray/\b.length=ds.length/\ ∀(j:Nat) (f:j<b.length),∃(v:V) (d:D),ds[j]? =p5 d/\bS v b[j]/\Rep X.K H v d:=by
 obtain⟨b,c,g,_⟩:=I.list h;have i:=c.length;have k:=r.length;refine⟨b,g.isList,by nofun,λj f=>?_⟩;have e:xs[j]? =p5 xs[j]:=Su (by nofun);obtain⟨u,m,n⟩:=c.get e;obtain⟨d,o,l⟩:=r.get' e;grind
theorem qb(I:Inv X aa σ H s){ds:List D}(h:SqT X.K H a xs)(r:Reps X.K H xs ds): ∃b:List Sb,s.heap.IsTuple a b.toArray/\b.length=ds.length/\ ∀(j:Nat) (f:j<b.length),∃(v:V) (d:D),ds[j]? =p5 d/\bS v b[j]/\Rep X.K H v d:=by
 obtain⟨b,c,g,_⟩:=I.tuple h;have i:=c.length;have k:=r.length;refine⟨b,g,by nofun,λj f=>?_⟩;have e:xs[j]? =p5 xs[j]:=Su ⋯;obtain⟨u,m,n⟩:=c.get e;obtain⟨d,o,l⟩:=r.get' e;grind
end
section
variable {X:Cx}
theorem K9 {A:Tb}{n:Nat}(t: ∀ {x y:D} {v u:V} {a b:Sb} {A:Tb},d5 x<n->A.units+d5 x<S7->A.units+d5 y<S7->bS v a->bS u b->Rep X.K H v x->Rep X.K H u y->Vk A s a b (gV x y)){e c:List Sb}(w:bJ xs<n)(z:A.units+bJ xs<S7)(hv:A.units+bJ ys<S7)
 (l: ∀(j:Nat) (m:j<e.length),∃(v:V) (d:D),xs[j]? =p5 d/\bS v e[j]/\Rep X.K H v d) (f: ∀(j:Nat) (m:j<c.length),∃(v:V) (d:D),ys[j]? =p5 d/\bS v c[j]/\Rep X.K H v d):
 ∀j (g:j<e.toArray.size) (q:j<c.toArray.size),Vk A s e.toArray[j] c.toArray[j] (rA xs ys j):=λj g q=>by
 obtain⟨v,d,i,r,C⟩:=l j (by omega);obtain⟨u,d',o,E,B⟩:=f j (by omega);have k:rA xs ys j=gV d d':=by grind[rA]
 rw[k];have h:=qJ i;have p:=qJ o;grind
theorem JU(I:Inv X aa σ H s){A:Tb}{n:Nat}(j: ∀ {x y:D} {v u:V} {a b:Sb} {A:Tb},d5 x<n->A.units+d5 x<S7->A.units+d5 y<S7->bS v a->bS u b->Rep X.K H v x->Rep X.K H u y->Vk A s a b (gV x y)){zs f:List V}(k:bJ xs<n)(t:A.units+(bJ xs+1)<S7)(hv:A.units+(bJ ys+1)<S7)
 (h:SqL X.K H a zs) (i:Reps X.K H zs xs) (o:SqL X.K H b f) (l:Reps X.K H f ys):Zc A s (.ref a) (.ref b) (iS xs ys)/\Zd A s (.ref a) (.ref b) (!iS xs ys):=by
 obtain⟨d,z,w,m⟩:=mM I h i;obtain⟨c,B,q,g⟩:=mM I o l
 by_cases e:xs.length=ys.length
 ·have hsz:d.toArray.size=c.toArray.size:=by nofun
  have p:=K9 (A:=A.in1) j k ⋯ ⋯ m g;have r:(R9 d.toArray.size).all (rA xs ys)=iS xs ys:=by grind[uy]
  grind[SeqAt.RcAt.lists,jha]
 grind[pU,SeqAt.RcAt.lists_lengths,jcD]
theorem MQ(I:Inv X aa σ H s){A:Tb}{n:Nat}(l: ∀ {x y:D} {v u:V} {a b:Sb} {A:Tb},d5 x<n->A.units+d5 x<S7->A.units+d5 y<S7->bS v a->bS u b->Rep X.K H v x->Rep X.K H u y->Vk A s a b (gV x y)){zs f:List V}(m:bJ xs<n)(w:A.units+(bJ xs+1)<S7)(hv:A.units+(bJ ys+1)<S7)
 (j:H a=p5 (.tup zs)) (k:Reps X.K H zs xs) (r:H b=p5 (.tup f)) (p:Reps X.K H f ys):Zc A s (.ref a) (.ref b) (iS xs ys)/\Zd A s (.ref a) (.ref b) (!iS xs ys):=by
 obtain⟨d,g,z,q⟩:=qb I (SqT.of j) k;obtain⟨c,h,t,i⟩:=qb I (SqT.of r) p;have e:=K9 (A:=A.in1) l m ⋯ ⋯ q i;have o:((R9 (min d.toArray.size c.toArray.size)).all (rA xs ys)&&d.toArray.size==c.toArray.size)=iS xs ys:=by
  grind[uy,pU]
 rw[<-o];exact⟨SeqAt.RcAt.tuples g h ⋯ e,jgp g h ⋯ e⟩
theorem AA(e:(∃i t,a=.int i t)\/ ∃p,a=.ref p)(d:(a==b)=θ)(h:Zc A s a b k):Vk A s a b k:=λprog w E Q f=>by
 unfold eqBool;rcases e with⟨_,_,rfl⟩|⟨_,rfl⟩<;>refine Tr (V8 (λc=>absurd c (by nofun)) λ_=>R8 (h prog w E _ (Uu f)))
theorem O5(I:Inv X aa σ H s){n:Nat}(q: ∀ {x y:D} {v u:V} {a b:Sb} {A:Tb},d5 x<n->A.units+d5 x<S7->A.units+d5 y<S7->bS v a->bS u b->Rep X.K H v x->Rep X.K H u y->Vk A s a b (gV x y)){A:Tb}(t:d5 x<n+1)(m:A.units+d5 x<S7)(hv:A.units+d5 y<S7)
 (o:bS v a) (i:bS u b) (w:Rep X.K H v x) (p:Rep X.K H u y):Zc A s a b (gV x y)/\Zd A s a b (!gV x y):=by
 have c:A.units<cLine:=SK (VO _ _) m;have no {k:Nat} (h:k+S7<S7):False:=absurd (SK (V9 _ _) h) (Tv _);cases w with
 |int=>
  obtain⟨z,rfl⟩:=o;cases p with
  |int=>
   obtain⟨r,rfl⟩:=i;exact⟨.int_int _ _ _ _,.int_int _ _ _ _⟩
  |tup d e=>
   cases i;obtain⟨_,f,_⟩:=qb I (SqT.of d) e;exact⟨.int_tuple _ _ f c,.int_tuple _ _ f c⟩
  |lst d e=>
   cases i;obtain⟨_,f,_⟩:=mM I (SqL.of d) e;exact⟨.int_list _ _ f c,.int_list _ _ f c⟩
  |_=>exact(no hv).elim
 |tup j l=>
  cases o;obtain⟨_,g,_⟩:=qb I (SqT.of j) l;cases p with
  |int=>
   obtain⟨r,rfl⟩:=i;exact⟨.tuple_int _ _ g c,.tuple_int _ _ g c⟩
  |tup d e=>
   cases i;exact MQ I q (V3 t) m hv j l d e
  |lst d e=>
   cases i;obtain⟨_,f,_⟩:=mM I (SqL.of d) e;exact⟨.tuple_list g f c,.tuple_list g f c⟩
  |_=>exact(no hv).elim
 |lst j l=>
  cases o;obtain⟨_,g,_⟩:=mM I (SqL.of j) l;cases p with
  |int=>
   obtain⟨r,rfl⟩:=i;exact⟨.list_int _ _ g c,.list_int _ _ g c⟩
  |tup d e=>
   cases i;obtain⟨_,f,_⟩:=qb I (SqT.of d) e;exact⟨.list_tuple g f c,.list_tuple g f c⟩
  |lst d e=>
   cases i;exact JU I q (V3 t) m hv (SqL.of j) l (SqL.of d) e
  |_=>exact(no hv).elim
 |_=>exact(no m).elim
theorem zD(I:Inv X aa σ H s): ∀(n:Nat) {x y:D} {v u:V} {a b:Sb} {A:Tb},d5 x<n->A.units+d5 x<S7->A.units+d5 y<S7->bS v a->bS u b->Rep X.K H v x->Rep X.K H u y->Vk A s a b (gV x y)
 |0,_,_,_,_,_,_,_,f,_,_,_,_,_,_=>absurd f (WM _)
 |n+1,_,_,_,_,a,b,_,f,d,hv,c,i,g,h=>by
  cases e:a==b with
  |true=>
   cases eq_of_beq e;cases c.inj i;rw[Rep.eqv I g h (SK (V9 _ _) d) (SK (V9 _ _) hv),mx _ (SK (V9 _ _) hv)];exact SeqAt.EqAt.same _
  |false=>
   refine AA ?_ e (O5 I (zD I n) f d hv c i g h).1;cases g with
   |int=>obtain⟨_,rfl⟩:=c;exact .inl ⟨_,_,rfl⟩
   |tup=>cases c;exact .inr ⟨_,rfl⟩
   |lst=>cases c;exact .inr ⟨_,rfl⟩
   |_=>exact absurd (SK (V9 _ _) d) (Tv _)
theorem OA(I:Inv X aa σ H s){A:Tb}(d:A.units+d5 x<S7)(hv:A.units+d5 y<S7)(g:bS v a)(f:bS u b)(c:Rep X.K H v x)(e:Rep X.K H u y):Zc A s a b (gV x y)/\Zd A s a b (!gV x y):=
 O5 I (zD I (d5 x)) (Wt _) d hv g f c e
end
theorem dr.full {K:Sf}(h:dr K H (vw H hid) v d):Rep K H v d:=by
 rcases h with h|⟨a,xs,ds,rfl,rfl,b,c⟩
 ·exact h.mono (cu _ _)
 ·exact .lst b (c.mono (cu _ _))
def O1(K:Sf):R2:=λv u H Q=> ∃x y,Rep K H v x/\Rep K H u y/\d5 x<=32/\d5 y<=32/\Q (.bl (gV x y)) H
def ON(K:Sf):R2:=λv u H Q=> ∃x y,Rep K H v x/\Rep K H u y/\d5 x<=32/\d5 y<=32/\Q (.bl (!gV x y)) H
theorem gP {X:Cx}(f:X.A.units+64<S7):kK X (Ub .Eq) (O1 X.K):=by
 intro k s σ H x y v u Q I c d h;obtain⟨e,g,b,a,i,j,q⟩:=h;exact(OA I ⋯ ⋯ c d b a).1 X.prog X.w _ _ ⟨.bl _,H,I,rfl,q⟩
theorem jF {X:Cx}(f:X.A.units+64<S7):kK X (Ub .NotEq) (ON X.K):=by
 intro k s σ H x y v u Q I c d h;obtain⟨e,g,b,a,i,j,q⟩:=h;exact(OA I ⋯ ⋯ c d b a).2 X.prog X.w _ _ ⟨.bl _,H,I,rfl,q⟩
def wS:D->D->Option D:=λx y=>if d5 x<=32/\d5 y<=32 then p5 (.bl (gV x y)) else ξ
def oZ:D->D->Option D:=λx y=>if d5 x<=32/\d5 y<=32 then p5 (.bl (!gV x y)) else ξ
theorem kc {K:Sf}:rR K .s (O1 K) wS:=by
 intro H hid v u x y d Q c h a b q;unfold wS at h;split at h
 ·cases h;exact⟨x,y,a.full,b.full,(‹_/\_› :_/\_).1,(‹_/\_› :_/\_).2,q _ H (ab.refl _) .bl⟩
 nofun
theorem oy {K:Sf}:rR K .s (ON K) oZ:=by
 intro H hid v u x y d Q c h a b q;unfold oZ at h;split at h
 ·cases h;exact⟨x,y,a.full,b.full,(‹_/\_› :_/\_).1,(‹_/\_› :_/\_).2,q _ H (ab.refl _) .bl⟩
 lia
theorem Fp {X:Cx}(I:Inv X aa σ H s){A:Tb}(J:Rep X.K H v x)(F:bS v a): ∀ {ds:List D} {xs:List V} {g:List Sb},Reps X.K H xs ds->cb xs g->A.units+bJ ds<S7->A.units+d5 x<S7->
 ∃e:Sb->Bool,(∀y,y∈g->Vk A s y a (e y))/\ ∀(j:Nat) (w:j<g.length) (d:D),ds[j]? =p5 d->e g[j]=gV d x:=by
 intro ds xs g r G i hv
 classical
 have l: ∀y u d,bS u y->Rep X.K H u d->d5 d<S7->decide (∃d u,bS u y/\Rep X.K H u d/\d5 d<S7/\gV d x=ζ)=gV d x:=λy u d o B p=>by
  cases e:gV d x with
  |true=>exact zm ⟨d,u,o,B,p,e⟩
  |false=>
   refine zq λh=>?_
   obtain⟨d',u',a,b,c,f⟩:=h;cases a.inj o;rw[Rep.eqv I b B c p,e] at f;nofun
 refine⟨λy=>decide (∃d u,bS u y/\Rep X.K H u d/\d5 d<S7/\gV d x=ζ),?_⟩
 induction G generalizing ds with
 |nil=>simp
 |cons C t M=>
  cases r with
  |cons q E=>
   rename_i d ds;have z:d5 d<=bJ (d::ds):=WN _ _
   have m:bJ ds<=bJ (d::ds):=Wu _ _;have k:=l _ _ _ C q (SK (Tk z (V9 _ _)) i);obtain⟨L,i2⟩:=M E (SK (Vb m _) i);refine⟨λy n=>?_,λj w d' e=>?_⟩
   ·rcases SU.mp n with rfl|n
    ·show Vk A s _ a (χ _);rw[k];exact zD I (d5 d+1) (Wt _) (SK (Vb z _) i) hv C F q J
    ·exact L y n
   ·cases j with
    |zero=>nofun
    |succ j=>exact i2 j (V3 w) d' e
theorem pA {X:Cx}(I:Inv X aa σ H s){A:Tb}(j:Rep X.K H v x)(h:bS v a){ds:List D}{c:List Sb}(r:Reps X.K H xs ds)(f:cb xs c)(i:A.units+bJ ds<S7)(hv:A.units+d5 x<S7):
 ∃e:Sb->Bool,(∀y,y∈c->Vk A s y a (e y))/\c.any e=ds.any (λd=>gV d x):=by
 obtain⟨e,g,k⟩:=Fp I j h r f i hv;refine⟨e,g,?_⟩;have n:c.map e=ds.map λd=>gV d x:=VQ (by rw[Sm,Sm,<-f.length,r.length]) λm a b=>by
  rw[jbl,jbl];exact k m (by nofun) _ (Su (by nofun))
 have:=congrArg (λl=>List.any l id) n;rwa [Wv,Wv] at this
def Nc(K:Sf)(b:Bool):R2:=λv u H Q=> ∃x ds a xs,Rep K H v x/\u=.ref a/\(SqL K H a xs\/SqT K H a xs)/\Reps K H xs ds/\bJ (x::ds)<=32/\Q (.bl (if b then !ds.any (λd=>gV d x) else ds.any λd=>gV d x)) H
theorem vP {X:Cx}(o:X.A.units+64<S7):kK X (Ub .In) (Nc X.K θ):=by
 intro u s σ H v w a b Q I k n h;obtain⟨x,ds,p,xs,j,rfl,c,r,t,q⟩:=h;cases n;rcases c with c|c
 ·obtain⟨i,f,g,hz⟩:=I.list c;obtain⟨e,d,l⟩:=pA (A:=X.A.in1) I j k r f (by grind[bJ]) (by grind[bJ]);refine SeqAt.in_listAt e g.isList (λy m=>d y (by nofun)) ⟨.bl _,H,I,rfl,?_⟩;nofun
 ·obtain⟨i,f,g,hz⟩:=I.tuple c;obtain⟨e,d,l⟩:=pA (A:=X.A.in1) I j k r f (by grind[bJ]) (by grind[bJ]);refine SeqAt.in_tupleAt e g (λy m=>d y (by nofun)) ⟨.bl _,H,I,rfl,?_⟩;nofun
theorem tL {X:Cx}(o:X.A.units+64<S7):kK X (Ub .NotIn) (Nc X.K ζ):=by
 intro u s σ H v w a b Q I k n h;obtain⟨x,ds,p,xs,j,rfl,c,r,t,q⟩:=h;cases n;rcases c with c|c
 ·obtain⟨i,f,g,hz⟩:=I.list c;obtain⟨e,d,l⟩:=pA (A:=X.A.in1) I j k r f (by grind[bJ]) (by grind[bJ]);refine SeqAt.notIn_listAt e g.isList (λy m=>d y (by nofun)) ⟨.bl _,H,I,rfl,?_⟩;nofun
 ·obtain⟨i,f,g,hz⟩:=I.tuple c;obtain⟨e,d,l⟩:=pA (A:=X.A.in1) I j k r f (by grind[bJ]) (by grind[bJ]);refine SeqAt.notIn_tupleAt e g (λy m=>d y (by nofun)) ⟨.bl _,H,I,rfl,?_⟩;nofun
def pT:D->Option (List D)
 | .lst ds=>p5 ds
 | .tup ds=>p5 ds
 |_=>ξ
def rQ(a:Bool):D->D->Option D:=λx y=>match pT y with
 |some ds=>if bJ (x::ds)<=32 then p5 (.bl (if a then !ds.any (λd=>gV d x) else ds.any λd=>gV d x)) else ξ
 |none=>ξ
theorem uE {K:Sf}(b:Bool):rR K .s (Nc K b) (rQ b):=by
 intro H hid v u x y d Q j h i g q;unfold rQ at h;split at h
 ·split at h
  ·rename_i ds e _
   cases h;cases y with
   |lst zs=>
    cases e;obtain⟨a,xs,rfl,c,f⟩:=g.lst;exact⟨x,_,a,xs,i.full,rfl,.inl c,f.mono (cu _ _), ‹_›,q _ H (ab.refl _) .bl⟩
   |tup zs=>
    cases e;obtain⟨a,xs,rfl,_,c,f⟩:=g.tup;exact⟨x,_,a,xs,i.full,rfl,.inr c,f.mono (cu _ _), ‹_›,q _ H (ab.refl _) .bl⟩
   |_=>cases e
  lia
 nofun
def Rk(T:String):D->Bool
 | .non=>T=="NoneType"
 | .bl _=>T=="bool"||T=="int"
 | .int _=>T=="int"
 | .str _=>T=="str"
 | .tup _=>T=="tuple"
 | .lst _=>T=="list"
 | .scr _=>T=="list"
 | .dct _ _=>T=="dict"
structure KT(T:String):Prop where
 n: ∀K,YS K (.type "NoneType") (.type T)=p5 (T=="NoneType")
 b: ∀K,YS K (.type "bool") (.type T)=p5 (T=="bool"||T=="int")
 i: ∀K,YS K (.type "int") (.type T)=p5 (T=="int")
 s: ∀K,YS K (.type "str") (.type T)=p5 (T=="str")
 t: ∀K,YS K (.type "tuple") (.type T)=p5 (T=="tuple")
 l: ∀K,YS K (.type "list") (.type T)=p5 (T=="list")
 d: ∀K,YS K (.type "dict") (.type T)=p5 (T=="dict")
theorem Cg:KT "list":=⟨λ_=>by rfl,λ_=>by rfl,λ_=>by rfl,λ_=>by rfl,λ_=>by rfl,λ_=>by rfl,λ_=>by rfl⟩
theorem yg:KT "tuple":=⟨λ_=>by rfl,λ_=>by rfl,λ_=>by rfl,λ_=>by rfl,λ_=>by rfl,λ_=>by rfl,λ_=>by rfl⟩
section
variable {X:Cx}{f:FE}{p:Pos}
theorem EX(a:KT T):dq X (.builtin "isinstance") (λxs H Q=> ∃v d,xs=[v,.ty T]/\Rep X.K H v d/\Q (.bl (Rk T d)) H):=by
 intro o s σ H xs us Q I r h;obtain⟨v,d,rfl,m,q⟩:=h;obtain⟨u,x,rfl,c,p⟩:=Lg r;cases p;have fin: ∀tk,EP X o σ Q (.bool (Rk T d)) {s with toks:=tk}:=λtk=>⟨.bl _,H,I.tok _,rfl,q⟩
 cases m with
 |non=>cases c;exact Xp W.kitx_none I.kIn True.intro (a.n _) (λz=>nomatch z) fin
 |bl=>cases c;exact Xp W.kitx_bool I.kIn True.intro (a.b _) (λz=>nomatch z) fin
 |int=>obtain⟨t,rfl⟩:=c;exact Xp W.kitx_int I.kIn True.intro (a.i _) (λz=>nomatch z) fin
 |str=>obtain⟨t,rfl⟩:=c;exact Xp W.kitx_str I.kIn True.intro (a.s _) (λz=>nomatch z) fin
 |tup e j=>
  cases c;obtain⟨⟨ob,g,f⟩,_⟩:=I.tupleN (SqT.of e);exact Xp W.kitx_tuple I.kIn ⟨ob,g,f⟩ (a.t _) (λz=>nomatch z) fin
 |lst e j=>
  cases c;obtain⟨k,_,⟨ob,n,g,f,_⟩,_⟩:=I.list (SqL.of e);exact Xp W.kitx_list I.kIn ⟨ob,g,f⟩ (a.l _) (λz=>nomatch z) fin
 |scr e j=>
  cases c;obtain⟨k,_,⟨ob,n,g,f,_⟩,_⟩:=I.list e.seq;exact Xp W.kitx_list I.kIn ⟨ob,g,f⟩ (a.l _) (λz=>nomatch z) fin
 |dct e j w=>
  cases c;obtain⟨ob,g,f⟩:=IM I e;exact Xp W.kitx_dict I.kIn ⟨ob,g,f⟩ (a.d _) (λz=>nomatch z) fin
def rZ(T:String)(f:FE):FE:=λρ=>(f ρ).map λd=>.bl (Rk T d)
theorem wV(T:String)(C:KT T)(B:DP X c k e f)(A:X.mg "isinstance"=ξ)(l:X.mg y=ξ)(x:Gl X "isinstance":=by rfl)(m:Gl X y:=by rfl)(hv:TN "isinstance"=p5 (.builtin "isinstance"):=by kernel_rfl)(i:TN y=p5 (.type T):=by kernel_rfl)(D:y≠"__name__":=by decide)(h:(y==("__debug__":Str))=false:=by decide)
 (g:Sv [e,.Name y p2] X.env=(θ,eval e X.env)::Sv [.Name y p2] X.env:=by rfl) (j:Sv [.Name y p2] X.env=(θ,eval (.Name y p2) X.env)::Sv [] X.env:=by rfl) (o:(Ue pos (Sv [.Name y p2] X.env)).any (·.1)=false:=by rfl):
 DP X c .s (.Call (.Name "isinstance" p) [e,.Name y p2] [] pos) (rZ T f):=λhid ρ=>
 PE.imp (jB (EX C) x A hv (bn (B hid ρ) (bn (Ju (v:=.ty T) m l i rfl D h) bX j) g) () (by rfl) g o) λσ H Q t=>by
  obtain⟨u,d,h,q⟩:=t;unfold rZ at h;cases e1:f ρ with
  |none=>nofun
  |some z=>
   rw[e1] at h;cases h;exact⟨u,z,e1,λv w s' r=>⟨v,z,rfl,(RK.b k r λa n=>u.fresh n).full,q _ w s' .bl⟩⟩
def ig:List D->Option (List Bool)
 | []=>p5 []
 | .bl b::r=>(ig r).map (b:: ·)
 |_=>ξ
theorem xD: ∀ {ds:List D} {bs:List Bool} {i:Nat} {d:D},ig ds=p5 bs->ds[i]? =p5 d-> ∃b,d=.bl b/\bs[i]? =p5 b
 | [],_,_,_,_,h=>by simp at h
 |x::r,bs,i,d,h,e=>by
  cases x with
  |bl b=>
   unfold ig at h;cases e1:ig r with
   |none=>nofun
   |some f=>
    rw[e1] at h;cases h;cases i with
    |zero=>nofun
    |succ i=>
     obtain⟨b',a,c⟩:=xD (i:=i) e1 (by simpa using e);exact⟨b',a,by simpa using c⟩
  |_=>cases h
theorem xn: ∀ {ds:List D} {bs:List Bool},ig ds=p5 bs->ds.length=bs.length
 | [],_,h=>by cases h;rfl
 |x::r,bs,h=>by
  cases x with
  |bl b=>
   unfold ig at h;cases e1:ig r with
   |none=>nofun
   |some a=>rw[e1] at h;cases h;simp[xn e1]
  |_=>cases h
theorem D8(bs:List Bool):(R9 bs.length).any (λi=>bs.getD i θ)=bs.any id:=by
 induction bs with
 |nil=>rfl
 |cons b bs a=>
  rw[SN,V2,Xz,Wv,Xz];rw[show((λi=>(b::bs).getD i θ)∘jcE)=λi=>bs.getD i θ by rfl,a];rfl
theorem zp(bs:List Bool):(R9 bs.length).all (λi=>bs.getD i θ)=bs.all id:=by
 induction bs with
 |nil=>rfl
 |cons b bs a=>
  rw[SN,V2,YE,jeC,YE];grind
theorem pX{bs:List Bool}(I:Inv X aa σ H s)(F:SqL X.K H a xs)(x:Reps X.K H xs ds)(r:ig ds=p5 bs)(B:X.calm=ζ)
 (hR: ∀(J:Addr) (f:Sc) (c:Array Sb) (N:c.size=bs.length),Walks X.prog X.w X.A.in1 J [J,a] [J] c.size (λi v=>c[i]? =p5 v) (λi h=>h.IsListIter J a i/\h.IsList a c)->f.heap.IsListIter J a 0->f.heap.IsList a c->TruthOf X.prog X.w X.A.in1 (λi v=>c[i]? =p5 v) (λi=>bs.getD i θ)->
   (∀h' tk,(∀b o,b∉ [J]->f.heap.get? b=p5 o->h'.get? b=p5 o)->Inv X aa σ H {f with heap:=h',toks:=tk})->R (.ref J) f):Sy (model X.prog X.w) X.A.in1 (YA (.ref a)) R E s:=by
 obtain⟨c,t,j,hz⟩:=I.list F;have T:=t.length;have U:=x.length;have P:=xn r;have l:a<s.heap.objs.size:=by obtain⟨o,n,e,_⟩:=j;exact Sw e
 refine Yo j.isList (hR s.heap.objs.size _ c.toArray (by nofun) (jhc (A:=X.A.in1) (I.ok.hd B) _ a (SW l) c.toArray) ⟨_,Sj _ rfl,rfl,rfl⟩ ?_ ?_ ?_)
 ·obtain⟨o,D,q⟩:=j.isList;exact⟨o,Sd _ D,q⟩
 ·intro i v s' Q E hv k;have g:c[i]? =some v:=by simpa using hv
  have S:=(Sz.mp g).1;have m:xs[i]? =p5 xs[i]:=Su (by nofun);obtain⟨u,y,z⟩:=t.get m;rw[g] at y;cases y;obtain⟨d,M,p⟩:=x.get' m;obtain⟨b,rfl,O⟩:=xD r M;rcases C:xs[i] with _|_|_|_|_|_|_|_<;>rw[C] at z p<;>cases p
  cases z;have:bs.getD i false=b:=by nofun
  dsimp only at k;rw[this] at k;exact Uu k
 ·intro h' tk L;refine I.kept λb o e=>L b o (λG=>?_) (Sd _ e)
  have:b=s.heap.objs.size:=by simpa using G
  exact absurd (this▸Sw e) (Tv _)
theorem pS(i:X.calm=ζ):dq X (.builtin "any") (λxs H Q=> ∃a ys ds bs,xs=[.ref a]/\SqL X.K H a ys/\Reps X.K H ys ds/\ig ds=p5 bs/\Q (.bl (bs.any id)) H):=by
 intro o s σ H xs us Q I r h;obtain⟨a,ys,ds,bs,rfl,d,j,e,q⟩:=h;obtain⟨u,rfl,n⟩:=fE r;cases n;refine call_any_walk (pX I d j e i λJ p l g W c b f k=>?_);refine⟨J,_,_,_,_,_,_,rfl,W,⟨c,b⟩,f,λh' tk m=>⟨.bl _,H,k h' tk m,rfl,?_⟩⟩;rw[g,D8];exact q
theorem ly(i:X.calm=ζ):dq X (.builtin "all") (λxs H Q=> ∃a ys ds bs,xs=[.ref a]/\SqL X.K H a ys/\Reps X.K H ys ds/\ig ds=p5 bs/\Q (.bl (bs.all id)) H):=by
 intro o s σ H xs us Q I r h;obtain⟨a,ys,ds,bs,rfl,d,j,e,q⟩:=h;obtain⟨u,rfl,n⟩:=fE r;cases n;refine call_all_walk (pX I d j e i λJ p l g W c b f k=>?_);refine⟨J,_,_,_,_,_,_,rfl,W,⟨c,b⟩,f,λh' tk m=>⟨.bl _,H,k h' tk m,rfl,?_⟩⟩;rw[g,zp];exact q
def vd:List D->Option D
 | [.lst ds]=>(ig ds).map λbs=>.bl (bs.any id)
 |_=>ξ
def vT:List D->Option D
 | [.lst ds]=>(ig ds).map λbs=>.bl (bs.all id)
 |_=>ξ
theorem Ab:ie X.K .s (λxs H Q=> ∃a ys ds bs,xs=[.ref a]/\SqL X.K H a ys/\Reps X.K H ys ds/\ig ds=p5 bs/\Q (.bl (bs.any id)) H) vd:=by
 intro H hid vs ds d Q f h r q;unfold vd at h;split at h
 ·rename_i zs
  cases e1:ig zs with
  |none=>nofun
  |some bs=>
   rw[e1] at h;cases h;obtain⟨x,rfl,e⟩:=d3.one r;obtain⟨a,xs,rfl,b,c⟩:=e.lst;exact⟨a,xs,zs,bs,rfl,b,c.mono (cu _ _),e1,q _ H (ab.refl _) .bl⟩
 nofun
theorem vD:ie X.K .s (λxs H Q=> ∃a ys ds bs,xs=[.ref a]/\SqL X.K H a ys/\Reps X.K H ys ds/\ig ds=p5 bs/\Q (.bl (bs.all id)) H) vT:=by
 intro H hid vs ds d Q f h r q;unfold vT at h;split at h
 ·rename_i zs
  cases e1:ig zs with
  |none=>nofun
  |some bs=>
   rw[e1] at h;cases h;obtain⟨x,rfl,e⟩:=d3.one r;obtain⟨a,xs,rfl,b,c⟩:=e.lst;exact⟨a,xs,zs,bs,rfl,b,c.mono (cu _ _),e1,q _ H (ab.refl _) .bl⟩
 nofun
def b9:List D->Option (List Int)
 | []=>p5 []
 | .int b::r=>(b9 r).map (b:: ·)
 |_=>ξ
theorem cJ: ∀ {ds:List D} {ns:List Int},b9 ds=p5 ns->ds=ns.map D.int
 | [],_,h=>by cases h;rfl
 |x::r,bs,h=>by
  cases x with
  |int b=>
   unfold b9 at h;cases e1:b9 r with
   |none=>nofun
   |some a=>rw[e1] at h;cases h;simp[cJ e1]
  |_=>cases h
theorem j5 {K:Sf}: ∀ {ns:List Int} {xs:List V},Reps K F xs (ns.map D.int)->xs=ns.map V.int
 | [],_,.nil=>rfl
 |n::ns,_,.cons r t=>by cases r;rw[j5 t];rfl
def ni:List Int->Int
 | []=>0
 |a::r=>r.foldl (λm b=>if b<m then b else m) a
theorem xI(r:List Int): ∀a:Int,r.foldl (λm b=>if b<m then b else m) a∈a::r/\ ∀x∈a::r,r.foldl (λm b=>if b<m then b else m) a<=x:=by
 induction r with
 |nil=>intro a;simp
 |cons b r e=>
  intro a;rw[V7];obtain⟨f,d⟩:=e (if b<a then b else a);have g:=d (if b<a then b else a) SB;refine⟨?_,λx c=>?_⟩
  ·grind
  ·rcases SU.mp c with rfl|c
   ·lia
   ·rcases SU.mp c with rfl|c
    ·omega
    ·exact d x (Sx _ c)
theorem Ge: ∀(ns:List Int),ns≠[]->ni ns∈ns/\ ∀a∈ns,ni ns<=a
 | [],h=>absurd rfl h
 |a::r,_=>xI r a
theorem Ea{m:Int}(c:m∈ns)(f: ∀a∈ns,m<=a):m=ni ns:=by
 obtain⟨d,b⟩:=Ge ns (by intro e;nofun);have:=f _ d;have:=b _ c;lia
theorem CQ(o:X.calm=ζ):dq X (.builtin "min") (λxs H Q=> ∃a ns,xs=[.ref a]/\SqL X.K H a (ns.map V.int)/\ns≠[]/\Q (.int (ni ns)) H):=by
 intro A s σ H xs us Q I r h;obtain⟨a,ns,rfl,k,z,q⟩:=h;obtain⟨u,rfl,y⟩:=fE r;cases y;obtain⟨c,n,w,hz⟩:=I.list k;have g:UO c ns:=gj n;obtain⟨xs,e⟩:=g.allInts.items;have b:ns=xs.toList.map (·.1):=by rw[<-g.numsOf,<-nums_intItems,<-e]
 have hsz:0<xs.size:=by
  have:0<ns.length:=by grind
  nofun
 have f:=w.isList;rw[e] at f;refine min_intList (I.ok.hd o) f hsz λv h' tk hv x=>?_
 obtain⟨t,rfl⟩:=intItems_at hv;obtain⟨B,l⟩:=argBest_lt (numAt xs) (xs.size-1);have p:numAt xs (argBest (λi j=>decide (numAt xs i<numAt xs j)) (xs.size-1))=ni ns:=by
  refine Ea ?_ λa d=>?_
  ·rw[b,numAt_eq];grind
  ·rw[b] at d;obtain⟨j,m,rfl⟩:=mem_getD d;rw[Sm,SV] at m;rw[<-numAt_eq];exact l j ⋯
 exact⟨.int (ni ns),H,I.kept x,⟨t,by rw[<-p]⟩,q⟩
def xx:List D->Option D
 | [.lst ds]=>(b9 ds).bind λns=>if ns.isEmpty then ξ else p5 (.int (ni ns))
 |_=>ξ
theorem Jo:ie X.K .s (λxs H Q=> ∃a ns,xs=[.ref a]/\SqL X.K H a (ns.map V.int)/\ns≠[]/\Q (.int (ni ns)) H) xx:=by
 intro H hid vs ds d Q f h r q;unfold xx at h;split at h
 ·rename_i zs
  cases e1:b9 zs with
  |none=>nofun
  |some ns=>
   rw[e1] at h;have h:(if ns.isEmpty then ξ else p5 (D.int (ni ns)))=p5 d:=h;split at h
   ·nofun
   ·cases h;obtain⟨x,rfl,e⟩:=d3.one r;obtain⟨a,xs,rfl,b,c⟩:=e.lst;rw[cJ e1] at c;rw[j5 c] at b;exact⟨a,ns,rfl,b,(by grind),q _ H (ab.refl _) .int⟩
 nofun
end
end
end Lake
namespace PySem.SeqAt
noncomputable section
open AutoSeq1 (wpAny_loadPart')
open MeetsSeq MeetsSeq2 MeetsSeq3 SeqRoads2
theorem o6 {M:Model}{A:Tb}{E:Sb->Sc->Prop}{s:Sc}{β:Type}(f:Nat->β->Sem (ForInStep β))(I:List Nat->β->Sc->Prop)(Q:β->Sc->Prop)
 (turn: ∀x d b s,I (x::d) b s->Sy M A (f x b) (λr s'=>match r with| .yield b'=>I d b' s'| .done b'=>Q b' s') E s)
 (fin: ∀b s,I [] b s->Q b s) (a b:Nat) (c:β) (h:I (WX a (b-a)) c s):Sy M A (forIn [a:b] c f) Q E s:=by
 rw[Std.Legacy.Range.forIn_eq_forIn_range'];have hsz:([a:b]:Std.Legacy.Range).size=b-a:=by simp
 show Sy M A (forIn (WX a ([a:b]:Std.Legacy.Range).size 1) c f) Q E s;rw[hsz];exact VP f I Q turn fin _ c h
theorem tuple_indexAt(l:Addr)(items:Array Sb)(n:Nat)(o:Option Addr)(B:Array (Option Sb))(x:Sb)(e:Sb->Bool)(j:Nat)(C:j<items.size)(f:e items[j]=ζ)(c: ∀m (D:m<items.size),m<j->e items[m]=θ):
 Meets (Ux.«tuple.index» ⟨[.ref l,x],[]⟩)
  (λA R s=>s.heap.get? l=p5 {cls:=.type "tuple",dict:=o,data:=.seq items n,slots:=B}/\(∀y,y∈items->EqAt A.in1 s y x (e y))/\R (.ok (.ret (.int j s.toks))) {s with toks:=s.toks+1}):=
 .of_wp λprog w A R s h=>by
  obtain⟨q,g,d,tk,os⟩:=s;obtain⟨r,v,h⟩:=h
  wp_walk using T1 r,o6 _ (λa b s'=>b.1=ξ/\s'=⟨q,g,d,tk,os⟩/\ ∃i,i<=j/\a=WX i (items.size-i)) _
  case turn=>
   rintro y a b s' ⟨E,rfl,i,k,hz⟩;have lt:i<items.size:=by lia
   have u:WX i (items.size-i)=i::WX (i+1) (items.size- (i+1)):=by
    rw[show items.size-i=(items.size- (i+1))+1 by grind];rfl
   rw[u] at hz;injection hz with t z
   subst t z;rw[show items[y]? =p5 items[y] by simp];refine R8 (v _ (jaK lt) prog w _ _ ?_)
   by_cases p:y=j
   ·subst p;rw[f]
    wp_walk
    lia
   ·rw[c y lt ⋯]
    wp_walk
    lia
  case fin=>
   grind
  case h=>
   exact⟨rfl,rfl,0,Uv _,by simp⟩
end
end PySem.SeqAt
namespace Lake
noncomputable section
open PySem PySem.Spec PyProof.Rows
def xB(ds:List D)(x:D):Option Nat:=ds.findIdx? λd=>gV d x
theorem J7 {X:Cx}(I:Inv X aa σ H s){A:Tb}(h:Rep X.K H v x)(g:bS v a): ∀ {ds:List D} {xs:List V} {b:List Sb},Reps X.K H xs ds->cb xs b->A.units+bJ (x::ds)<S7->
 ∃e:Sb->Bool,(∀y,y∈b->Vk A s y a (e y))/\ ∀(j:Nat) (i:j<b.length) (d:D),ds[j]? =p5 d->e b[j]=gV d x:=by
 exact λr f c=>Fp I h g r f (SK (Vb (Wu _ _) _) c) (SK (Vb (WN _ _) _) c)
section
variable {X:Cx}
theorem yy(M:X.A.units+64<S7):Qi X "tuple.index" (λv vs H Q=> ∃a xs ds x y j,v=.ref a/\vs=[x]/\SqT X.K H a xs/\Reps X.K H xs ds/\Rep X.K H x y/\bJ (y::ds)<=32/\xB ds y=p5 j/\Q (.int j) H):=by
 intro U s σ H v vs u us Q I E D h;obtain⟨a,xs,ds,x,y,j,rfl,rfl,p,i,C,N,f,q⟩:=h;cases E;obtain⟨w,rfl,d⟩:=fE D;obtain⟨b,r,G,hz⟩:=I.tuple p;have S:=r.length;have T:=i.length;obtain⟨e,V,t⟩:=J7 (A:=X.A.in1.in1) I C d i r ⋯;unfold xB at f;rw[List.findIdx?_eq_some_iff_getElem] at f;obtain⟨O,P,z⟩:=f;obtain⟨⟨cls,B,data,L⟩,l,k,n,o⟩:=id G;simp only at k o;subst k o;have J:j<b.length:=by lia
 have R: ∀m (g:m<b.length) (c:m<ds.length),e b[m]=gV ds[m] y:=λm g c=>t m g _ (Su c)
 refine jac YF ⟨_,l,rfl⟩ PySem.F.entry_tuple_index (PySem.F.args_tuple_index_2 _ _) (SeqAt.tuple_indexAt a b.toArray n B L w e j (by omega) ?_ ?_) ⟨l,?_,?_⟩
 ·nofun
 ·nofun
 ·grind[SeqAt.EqAt.of_in1]
 ·exact⟨.int j,H,I.tok _,⟨_,rfl⟩,q⟩
end
section
variable {X:Cx}{f:FE}{pos p apos:Pos}
def yB:D->D->Option D:=λt x=>match t with
 | .tup ds=>if bJ (x::ds)<=32 then(xB ds x).map λj=>.int j else ξ
 |_=>ξ
theorem xo(D:X.A.units+64<S7)(R:DP X c k o f)(M:DP X c k2 e g)
 (i:Ve o "index" X.env (eval o X.env)=eval o X.env:=by rfl)
 (m:((Ue pos (Sv [e] X.env)).all (λx=> !x.1)&&(XA pos (VW [] X.env)).all (λx=>x.1.isSome)
   &&χ (([e]:List Expr).length+([]:List Vv).length+(if([]:List Vv).isEmpty then 0 else 1)<30))=true:=by rfl)
 (l:(apos.endLine==pos.line)=true:=by rfl) (B:Sv [e] X.env=(θ,eval e X.env)::Sv [] X.env:=by rfl) (h:(Ue pos (Sv [] X.env)).any (·.1)=false:=by rfl):
 DP X c .s (.Call (.Attribute o "index" apos) [e] [] pos) (ar yB f g):=λhid ρ=>
 PE.imp (yA PySem.F.plainAttrs_tuple YF PySem.F.type_tuple_index (yy D) (R hid ρ) (bn (M hid ρ) bX B) i m l B h) λσ H Q w=>by
  obtain⟨r,d,L,q⟩:=w;obtain⟨x,y,I,N,p⟩:=yx L;unfold yB at p;split at p
  ·split at p
   ·rename_i ds _
    cases e4:xB ds y with
    |none=>nofun
    |some j=>
     rw[e4] at p;cases p;refine⟨r,_,I,λv T t K=>?_⟩;have P:=RK.b k K λa n=>r.fresh n
     obtain⟨a,xs,rfl,S,C,E⟩:=P.tup;refine⟨.inr (.inl ⟨rfl,xs,C⟩),r.ext t,y,N,λu O z G=>?_⟩;have J:=RK.b k2 G λa n=>(r.ext t).fresh n
     exact⟨a,xs,ds,u,y,j,rfl,rfl,ab.seqT z C,(E.mono (aH z)).mono (cu _ _),J.full, ‹_›,e4,q _ O (t.trans z) .int⟩
   nofun
  nofun
theorem DV:dq X (.type "range") (λxs H Q=> ∃j:Int,xs=[.int j]/\ ∀p,H p=ξ->Q (.ref p) (aV H p (.rng 0 j))):=by
 intro a s σ H xs us Q I r h;obtain⟨j,rfl,q⟩:=h;obtain⟨u,rfl,t,rfl⟩:=fE r;refine call_range_1 ⟨.ref s.heap.objs.size,_,I.laid (λb o e=>Sd _ e) (Sn _) ?_,rfl,q _ (I.hok.fresh (Sn _))⟩;exact⟨_,_,_,Sj _ rfl⟩
theorem Pi(b:Int)(n:Nat): ∀ {K:Sf} {F:Hp},Reps K F ((R9 n).map λ(i:Nat)=>V.int (b+i)) (C7 b n):=by
 intro K F;unfold C7;generalize R9 n=l
 induction l with
 |nil=>exact .nil
 |cons a l c=>exact .cons .int c
theorem rX(B:X.calm=ζ):dq X (.type "list") (λxs H Q=> ∃p d f,xs=[.ref p]/\H p=p5 (.rng d f)/\ -(2^30)<=d/\d<=2^30/\ -(2^30)<=f/\f-d<=1000000/\f<=2^31/\ ∀l,H l=ξ->Q (.ref l) (aV H l (.lst ((R9 (f-d).toNat).map λ(i:Nat)=>V.int (d+i))))):=by
 intro O s σ H xs us Q I r h;obtain⟨p,d,f,rfl,A,R,M,J,P,S,q⟩:=h;obtain⟨u,rfl,G⟩:=fE r;cases G;obtain⟨t,u,v,E⟩:=I.hok p _ A;have hsz:WV d f 1=(f-d).toNat:=by
  unfold WV;grind
 refine call_list_range (a:=d) (b:=f) (c:=1) (n:=(f-d).toNat) (I.ok.hd B) E ?_ hsz ⋯ λh' tk g F C K o=>?_
 ·grind[small_one]
 ·have hz:(f-d).toNat<=sizeLine:=by rw[TY];lia
  refine⟨.ref s.heap.objs.size,_,I.laid (t':=tk) C (Sn _) (show b6 X.prog X.w _ h' _ (.lst _) from⟨by nofun,g.toList,F,?_,by omega⟩),rfl,q _ (I.hok.fresh (Sn _))⟩;obtain⟨L,N⟩:=o;have y: ∀(l:List Sb) (k m:Nat),l.length=m->(∀(j:Nat) v,l[j]? =p5 v-> ∃t,v=.int (d+((k+j:Nat):Int)*1) t)->cb ((WX k m).map λ(i:Nat)=>V.int (d+i)) l:=by
   intro l
   induction l with
   |nil=>intro k m z _;subst z;exact .nil
   |cons x l D=>
    intro k m z hv;subst z;rw[SN,jbm];refine .cons ?_ (D (k+1) l.length rfl λj v e=>?_)
    ·obtain⟨t,rfl⟩:=hv 0 x rfl;exact⟨t,by simp⟩
    ·obtain⟨t,rfl⟩:=hv (j+1) v (by simpa using e);lia
  have:=y g.toList 0 (f-d).toNat (by omega) λj v e=>by
   nofun
  rw[ZG];omega
def KN:D->Option D
 | .int j=>if j.natAbs<=1000000 then p5 (.lst (C7 0 j.toNat)) else ξ
 |_=>ξ
def HD(f:FE):FE:=λρ=>(f ρ).bind KN
theorem gO(G:X.calm=ζ)(s:X.mg "list"=ξ)(y:X.mg "range"=ξ)(J:DP X c k e f)(w:Gl X "list":=by rfl)(t:Gl X "range":=by rfl)(A:TN "list"=p5 (.type "list"):=by kernel_rfl)(u:TN "range"=p5 (.type "range"):=by kernel_rfl)
 (h:Sv [e] X.env=(θ,eval e X.env)::Sv [] X.env:=by rfl) (i:(Ue pos (Sv [] X.env)).any (·.1)=false:=by rfl) (m:(Ue p2 (Sv [] X.env)).any (·.1)=false:=by rfl) {x:Pos}
 (o:Sv [.Call (.Name "range" x) [e] [] p2] X.env=(θ,eval (.Call (.Name "range" x) [e] [] p2) X.env)::Sv [] X.env:=by rfl):
 DP X c .n (.Call (.Name "list" p) [.Call (.Name "range" x) [e] [] p2] [] pos) (HD f):=λhid ρ=>
 PE.imp (dY (rX G) w s A (bn (dY DV t y u (bn (J hid ρ) bX h) () (by rfl) h m) bX o) () (by rfl) o i) λσ H Q B=>by
  obtain⟨C,d,g,q⟩:=B;unfold HD at g;cases e1:f ρ with
  |none=>nofun
  |some z=>
   rw[e1] at g;have g:KN z=p5 d:=g;unfold KN at g;split at g
   ·split at g
    ·rename_i _ j _ _
     cases g;refine⟨C,_,e1,λv L F I=>?_⟩;have N:=(RK.b k I λa n=>C.fresh n).int;cases N;refine⟨j,rfl,λr M=>?_⟩;refine⟨r,0,j,rfl,aA,by simp,by simp,by grind,by grind,⋯,λl D=>?_⟩;have E:ab H (aV L r (.rng 0 j)):=F.trans (aM M _);refine q _ _ (E.trans (aM D _)) ?_
     have:=gL (hid:=hid) (K:=X.K) D E (Pi 0 (j-0).toNat);rw[show(j-0).toNat=j.toNat by simp] at this⊢;exact this
    nofun
   nofun
def cr:=i2 (λ_ _=>ζ) λi j=>.int (i+j)
def fw:=i2 (λ_ _=>ζ) λi j=>.int (i-j)
def fB:=i2 (λi j=>decide (i.natAbs<2^1000)&&χ (j.natAbs<2^1000)) λi j=>.int (i*j)
def bo:=i2 (λ_ j=>decide (0<j)) λi j=>.int (i % j)
def mt:=i2 (λ_ j=>decide (0<j)&&χ (j.natAbs<2^1000)) λi j=>.int (i / j)
def fM:=i2 (λi j=>decide (0<=j)&&χ (j<=1000000)&&χ (i.natAbs<2^64)) λi j=>.int (i^j.toNat)
def o7:=i2 (λ_ _=>ζ) λi j=>.bl (χ (i<j))
def OI:=i2 (λ_ _=>ζ) λi j=>.bl (χ (i<=j))
def NJ:=i2 (λ_ _=>ζ) λi j=>.bl (χ (j<i))
def Re:=i2 (λ_ _=>ζ) λi j=>.bl (χ (j<=i))
theorem Bi {i:Int}(h:i.natAbs<2^1000):ZT i<=2^20:=by
 unfold ZT;split
 ·simp
 ·rename_i hz
  have a:i.natAbs≠0:=by nofun
  have:=(Nat.log2_lt a).mpr h;lia
theorem Kn:kK X (U9 .Mult) (rI IntMulOk λi j=>.int (i*j)):=Qf λ_ _ _ _ _ _ _ a q=>mul_int q a
variable {b:Expr}
theorem cA {i e:Kd}(h:DP X c i a f)(d:DP X c e b g):DP X c .s (.BinOp a .Add b pos) (ar cr f g):=oj Gk FZ h d
theorem eU {i e:Kd}(h:DP X c i a f)(d:DP X c e b g):DP X c .s (.BinOp a .Sub b pos) (ar fw f g):=oj LQ FZ h d
theorem Np {K:Sf}:rR K .s (rI IntMulOk λi j=>.int (i*j)) fB:=Kl λi j h=>by
 simp only[TL,zk] at h;exact IntMulOk.of_bits (Bi h.1) (Bi h.2)
theorem i6 {i e:Kd}(h:DP X c i a f)(d:DP X c e b g):DP X c .s (.BinOp a .Mult b pos) (ar fB f g):=oj Kn Np h d
theorem L8 {K:Sf}:rR K .s (rI (λ_ j=>0<j) λi j=>.int (i % j)) bo:=Kl λi j h=>by nofun
theorem bY {i e:Kd}(h:DP X c i a f)(d:DP X c e b g):DP X c .s (.BinOp a .Mod b pos) (ar bo f g):=oj L0 L8 h d
theorem Hc:kK X (U9 .FloorDiv) (rI (λ_ j=>0<j/\j.natAbs<2^1000) λi j=>.int (i / j)):=Qf λi j _ _ _ _ _ a q=>by
 obtain⟨c,b⟩:=a;refine floordiv_int ⋯ (by rw[Int.fdiv_eq_ediv_of_nonneg i ⋯];exact q) (.inl (PyProof.noPylong_of_log2 ?_));have:=(Nat.log2_lt (n:=j.natAbs) (by grind)).mpr b;lia
theorem Ig {K:Sf}:rR K .s (rI (λ_ j=>0<j/\j.natAbs<2^1000) λi j=>.int (i / j)) mt:=Kl λi j h=>by
 nofun
theorem AL {i e:Kd}(h:DP X c i a f)(d:DP X c e b g):DP X c .s (.BinOp a .FloorDiv b pos) (ar mt f g):=oj Hc Ig h d
theorem LO {K:Sf}:rR K .s (rI OL λi j=>.int (i^j.toNat)) fM:=Kl λi j h=>by
 simp only[TL,zk] at h;exact⟨h.1.1,h.1.2,h.2⟩
theorem mZ {i e:Kd}(h:DP X c i a f)(d:DP X c e b g):DP X c .s (.BinOp a .Pow b pos) (ar fM f g):=oj Nf LO h d
theorem GS {f g:GE}(d:DE X c .s a f)(e:DE X c .s b g):DE X c .s (.BinOp a .Add b pos) (pR cr f g):=OV Gk FZ d e
def LJ:D->Option D
 | .int i=>p5 (.int (-i))
 |_=>ξ
def zh(f:FE):FE:=λρ=>(f ρ).bind LJ
theorem l5(j:DP X c k a f):DP X c .s (.UnaryOp .USub a pos) (zh f):=λhid ρ=>PE.imp (Pw Ms (j hid ρ)) λσ H Q g=>by
 obtain⟨h,d,e,q⟩:=g;unfold zh at e;cases e1:f ρ with
 |none=>nofun
 |some z=>
  rw[e1] at e;have e:LJ z=p5 d:=e;unfold LJ at e;split at e
  ·cases e;refine⟨h,_,e1,λv m i l=>?_⟩;cases (RK.b k l λa n=>h.fresh n).int;exact⟨_,rfl,q _ m i .int⟩
  nofun
def yT:List D->Option D
 | [.int i]=>p5 (.int i)
 | [.bl b]=>p5 (.int (if b then 1 else 0))
 |_=>ξ
theorem wa:ie X.K .s (λxs H Q=>(∃i,xs=[.int i]/\Q (.int i) H)\/ ∃k,xs=[.bl k]/\Q (.int (if k then 1 else 0)) H) yT:=by
 intro H hid vs ds d Q b h r q;unfold yT at h;split at h
 ·cases h;obtain⟨x,rfl,a⟩:=d3.one r;cases a.int;exact .inl ⟨_,rfl,q _ H (ab.refl _) .int⟩
 ·cases h;obtain⟨x,rfl,a⟩:=d3.one r;cases a.bl;exact .inr ⟨_,rfl,q _ H (ab.refl _) .int⟩
 nofun
end
structure Cl(P:SS)(w:Tf)(K:Sf)(mg:Str->Option Sb)(base:Heap)(k:Nat)(x:Str)(ps:List Str)(sp:Sp):Prop where
 ex: ∃f fd,ju P w K mg base wZ k f fd ps sp/\mg x=p5 (.ref f)/\Yb K (.ref f)=ζ/\nT K fd ps []
structure Df(K:Sf)(mg:Str->Option Sb)(x:Str)(st:Stmt)(ps:List Str):Prop where
 ex: ∃f fd,Fun K x x st f fd/\mg x=p5 (.ref f)/\nT K fd ps []
section
variable {K:Sf}{st:Stmt}{N ps:List Str}
theorem aO(F:Df K mg x st ps)(S:bg N ps (av st))(e:kd≠ .b)(i:ps.length=n)
 (c: ∀(f:Addr) (d:Sb) (A:Tb) (a:List Env) (s:Sc) (H:Hp) (hid:bv) (E:XK),er k (A.deeper (XI x (av st) s.heap.objs.size f d))->
   AI (ss wZ P w K mg base N x (av st) f d A a s H E).nox ⟨H,hid,λ_=>θ⟩ kd (dm st) t):
 Cl P w K mg base (k+1) x ps (spP K kd n (bP kd N.length t)):=by
 obtain⟨f,h,F,j,g⟩:=F.ex;subst i;exact⟨f,h,Cq F S e (c f),j,F.kp,g⟩
theorem vM(F:Df K mg x st ps)(S:bg N ps (av st))(g:kd≠ .b)(j:ps.length=n+1)
 (d: ∀(f:Addr) (e:Sb) (A:Tb) (c:List Env) (s:Sc) (H:Hp) (hid:bv) (a:Addr) (E:XK),er k (A.deeper (XI x (av st) s.heap.objs.size f e))->
   AI (ss wZ P w K mg base N x (av st) f e A c s H E).nox ⟨H,hid,λb=>decide (b=a)⟩ kd (dm st) t):
 Cl P w K mg base (k+1) x ps (spE K kd n (yP kd N.length t)):=by
 obtain⟨f,i,F,l,h⟩:=F.ex;exact⟨f,i,MK F S g j (d f),l,F.kp,h⟩
end
section
variable {X:Cx}{n:Nat}
def nF(n:Nat)(P:List D->Option D):List D->Option D:=λds=>if ds.length=n then P ds else ξ
theorem aX(C:Cl X.prog X.w X.K X.mg X.base j x ps (spP X.K k n P))(l:er j X.A)
 (i:DA X c (e::es) fs) (m:Gl X x:=by rfl) (a:(x==("__debug__":Str))=false:=by decide) (d:Sv (e::es) X.env=(θ,eval e X.env)::Sv es X.env:=by rfl) (b:(Ue pos (Sv es X.env)).any (·.1)=false:=by rfl):
 DP X c k (.Call (.Name x p) (e::es) [] pos) (am (nF n P) fs):=by
 obtain⟨f,q,F,o,h,g⟩:=C.ex;exact IW F l o h g i m a d b
theorem ka(i:Nat)(C:Cl X.prog X.w X.K X.mg X.base j x ps (spE X.K k n M))(s:er j X.A)
 (r:DG X c es fs) (g:k≠ .b:=by decide) (h:X.N[i]? =p5 y:=by rfl) (hv:oe X.env.scope y:=by first|exact TJ rfl|exact Ta (TJ rfl)|exact Ta (Ta rfl)) (l:(y==("__debug__":Str))=false:=by decide)
 (d:(y==("__classdict__":Str))=false:=by decide) (m:Sv (.Name y py::es) X.env=(θ,eval (.Name y py) X.env)::Sv es X.env:=by rfl) (t:Gl X x:=by rfl) (a:(x==("__debug__":Str))=false:=by decide) (e:(Ue pos (Sv es X.env)).any (·.1)=false:=by rfl):
 DE X c k (.Call (.Name x p) (.Name y py::es) [] pos) (a9 i n M fs):=by
 obtain⟨f,v,F,u,q,o⟩:=C.ex;exact Fb i F s u q o r g h hv l d m t a e
end
open PySem PySem.W PyProof.Rows
structure Od(b:Nat->Nat->Bool):Prop where
 tr: ∀ {i j k:Nat},b j i=θ->b k j=θ->b k i=θ
 as: ∀ {i j:Nat},b i j=ζ->b j i=θ
theorem Od.rf(O:Od b)(i:Nat):b i i=false:=by
 cases h:b i i with
 |false=>rfl
 |true=>have:=O.as h;nofun
structure Pm(N:Nat)(p:Array Nat):Prop where
 perm:p.Perm (Uy (R9 N))
theorem Pm.size {N:Nat}{p:Array Nat}(h:Pm N p):p.size=N:=by rw[h.perm.size_eq];simp
theorem Pm.lt {N:Nat}{p:Array Nat}(h:Pm N p)(b:0<N)(k:Nat):p.getD k 0<N:=by
 by_cases a:k<p.size
 ·have e:p.getD k 0=p[k]:=by nofun
  rw[e];have:p[k]∈(Uy (R9 N)):=h.perm.mem_iff.mp (jaK a);nofun
 nofun
theorem Lh {p q:Array Nat}(h:p[i]? =q[j]?):p.getD i 0=q.getD j 0:=by
 rw[X0,X0,h]
section
variable {b:Nat->Nat->Bool}{N:Nat}{cmp:Nat->Nat->(Bool->Sc->Prop)->Sc->Prop}{s:Sc}
def Srt(b:Nat->Nat->Bool)(p:Array Nat)(n:Nat):Prop:= ∀i j,i<=j->j<n->b (p.getD j 0) (p.getD i 0)=θ
def Fal(b:Nat->Nat->Bool)(p:Array Nat)(n:Nat):Prop:= ∀i j,i<=j->j<n->b (p.getD i 0) (p.getD j 0)=θ
theorem Srt.succ(O:Od b){p:Array Nat}(h:Srt b p n)(g:1<=n)(e:b (p.getD n 0) (p.getD (n-1) 0)=θ):Srt b p (n+1):=λi j a f=>by
 by_cases c:j<n
 ·exact h i j a c
 ·have:j=n:=by lia
  subst this
  by_cases d:i=j
  ·subst d;exact O.rf _
  ·exact O.tr (h i (j-1) ⋯ (by omega)) e
theorem Fal.succ(O:Od b){p:Array Nat}(h:Fal b p n)(g:1<=n)(e:b (p.getD (n-1) 0) (p.getD n 0)=θ):Fal b p (n+1):=λi j a f=>by
 by_cases c:j<n
 ·exact h i j a c
 ·have:j=n:=by omega
  subst this
  by_cases d:i=j
  ·subst d;exact O.rf _
  ·exact O.tr e (h i (j-1) (by omega) (by omega))
theorem Fal.congr(O:Od b){p q:Array Nat}(h:Fal b p n)(e: ∀k,k<n->b (p.getD k 0) (q.getD k 0)=θ/\b (q.getD k 0) (p.getD k 0)=θ):Fal b q n:=λi j a c=>
 O.tr (O.tr (e j c).1 (h i j a c)) (e i (by omega)).2
theorem J8(O:Od b)(p:Array Nat):Srt b p 1:=λi j a c=>by
 have:i=j:=by nofun
 subst this;exact O.rf _
theorem Ik(O:Od b)(p:Array Nat):Fal b p 1:=λi j a c=>by
 have:i=j:=by omega
 subst this;exact O.rf _
theorem nL {p:Array Nat}(a:j<=p.size)(k:Nat):(X1 p i j).getD k 0=if i<=k/\k<j then p.getD (i+j-1-k) 0 else p.getD k 0:=by
 have:=getElem?_mirror_all (i:=i) a k;unfold X1;split
 ·nofun
 nofun
theorem Pm.rev(h:Pm N p)(i j:Nat):Pm N (X1 p i j):=⟨(mirror_perm _ _ _ _).trans h.perm⟩
variable(O:Od b)(hN:0<N)(hc: ∀(i j:Nat) (C:Bool->Sc->Prop),i<N->j<N->C (b i j) s->cmp i j C s)
include O hN hc
theorem y0 {p:Array Nat}(P:Pm N p): ∀(f n:Nat),1<=n->n+f<=N->Srt b p n->
 (∀m,n<=m->m<=n+f->Srt b p m->(m<n+f->b (p.getD m 0) (p.getD (m-1) 0)=ζ)->Q m s)->(kas_asc p f n).kasWp cmp Q s
 |0,n,c,h,a,q=>q n (Sn _) (Sn _) a λz=>absurd z (Tv _)
 |f+1,n,c,h,a,q=>by
  unfold kas_asc;refine hc _ _ _ (P.lt hN _) (P.lt hN _) ?_
  cases e:b (p.getD n 0) (p.getD (n-1) 0) with
  |true=>simp only[if_true];exact q n (Sn _) (by simp) a λ_=>e
  |false=>
   simp only[SF,if_false];exact y0 P f (n+1) (by simp) ⋯ (a.succ O c e) λm i j g d=>q m ⋯ (by omega) g λz=>d (by omega)
def Eqs(b:Nat->Nat->Bool)(p:Array Nat)(n q:Nat):Prop:= ∀i,n- (q+1)<=i->i<n->b (p.getD i 0) (p.getD (n-1) 0)=θ/\b (p.getD (n-1) 0) (p.getD i 0)=θ
omit hN hc in
theorem Eqs.rev {p:Array Nat}(e:n<=p.size)(f:q<n)(h:Eqs b p n q)(k:Nat):b (p.getD k 0) ((X1 p (n- (q+1)) n).getD k 0)=θ/\b ((X1 p (n- (q+1)) n).getD k 0) (p.getD k 0)=false:=by
 rw[nL e];split
 ·rename_i c
  have a:=h k c.1 c.2;have d:=h (n- (q+1)+n-1-k) (by omega) (by omega);exact⟨O.tr d.2 a.1,O.tr a.2 d.1⟩
 ·exact⟨O.rf _,O.rf _⟩
theorem pL: ∀(f:Nat) (p:Array Nat) (n q:Nat),Pm N p->1<=n->n+f<=N->q<n->Fal b p n->Eqs b p n q->
 (∀a c d,Pm N a->n<=c->c<=n+f->d<c->Fal b a c->Eqs b a c d->Q (a,c,d) s)->(kas_desc f p n q).kasWp cmp Q s
 |0,p,n,q,P,l,A,m,g,j,k=>k p n q P (Sn _) (Sn _) m g j
 |f+1,p,n,q,P,l,A,m,g,j,k=>by
  have hz:=P.size;have u: ∀a:Array Nat,Eqs b a (n+1) 0:=λa i h o=>by
   have:i=n:=by lia
   subst this;exact⟨O.rf _,O.rf _⟩
  unfold kas_desc;refine hc _ _ _ (P.lt hN _) (P.lt hN _) ?_
  cases e:b (p.getD n 0) (p.getD (n-1) 0) with
  |true=>
   simp only[if_true];split
   ·rename_i w
    have t:=j.rev O ⋯ m;have r:Fal b (X1 p (n- (q+1)) n) n:=g.congr O λk _=>t k
    refine pL f _ (n+1) 0 (P.rev _ _) (by simp) ⋯ (by simp) (r.succ O l ?_) (u _) λa c d h o x=>k a c d h ⋯ (by grind)
    have v:(X1 p (n- (q+1)) n).getD n 0=p.getD n 0:=by rw[nL (by grind),if_neg (by simp)]
    rw[v];exact O.tr (O.as e) (t (n-1)).2
   ·exact pL f p (n+1) 0 P (by simp) (by omega) (by simp) (g.succ O l (O.as e)) (u _) λa c d h o x=>k a c d h ⋯ ⋯
  |false=>
   simp only[SF,if_false];refine hc _ _ _ (P.lt hN _) (P.lt hN _) ?_
   cases e2:b (p.getD (n-1) 0) (p.getD n 0) with
   |true=>simp only[if_true];exact k p n q P (Sn _) (by simp) m g j
   |false=>
    simp only[SF,if_false];refine pL f p (n+1) (q+1) P (by simp) ⋯ (by nofun) (g.succ O l e2) (λi h o=>?_) λa c d y C D=>k a c d y ⋯ ⋯
    rw[show n+1-1=n by simp]
    by_cases B:i=n
    ·subst B;exact⟨O.rf _,O.rf _⟩
    ·have z:=j i (by nofun) ⋯;exact⟨O.tr e2 z.1,O.tr z.2 e⟩
theorem yI(P:Pm N p)(c:1<=n)(o:n<=N)(f:Fal b p n)(q: ∀m a,Pm N a->1<=m->m<=N->Srt b a m->Q (m,a) s):(kas_tail3 n N p).kasWp cmp Q s:=by
 unfold kas_tail3;rw[WO];have hz:=P.size;have e:Srt b (X1 p 0 n) n:=λi j d l=>by
  rw[nL (by nofun),nL (by nofun),if_pos (by nofun),if_pos (by omega)];exact f _ _ (by omega) (by omega)
 exact y0 O hN hc (P.rev _ _) (N-n) n c (by nofun) e λm k h g _=>q m _ (P.rev _ _) ⋯ (by nofun) g
theorem oK(P:Pm N p)(j:1<=n)(o:n+1<=N)(f:Fal b p (n+1))(q: ∀m a,Pm N a->1<=m->m<=N->Srt b a m->Q (m,a) s):(kas_descPart n N p).kasWp cmp Q s:=by
 unfold kas_descPart;rw[WO];refine pL O hN hc (N- (n+1)) p (n+1) 0 P (by simp) (by nofun) (by simp) f (λi c d=>?_) λa r t c d l e g h=>?_
 ·have:i=n:=by lia
  subst this;exact⟨O.rf _,O.rf _⟩
 ·dsimp only;have hz:=c.size;split
  ·exact yI O hN hc (c.rev _ _) (by grind) (by nofun) (g.congr O λk _=>h.rev O (by nofun) e k) q
  ·grind[yI]
theorem F1(P:Pm N p)(q: ∀m d,Pm N d->1<=m->m<=N->Srt b d m->Q (m,d) s):(kas_count N p).kasWp cmp Q s:=by
 unfold kas_count;rw[WO];have hz:=P.size;refine y0 O hN hc P (N-1) 1 (Sn _) (by grind) (J8 O p) λm c u a t=>?_
 split
 ·exact q m p P c (by nofun) a
 ·rename_i o
  have n:m≠N:=by simpa using o
  have lt:=t (by omega);split
  ·refine hc _ _ _ (P.lt hN _) (P.lt hN _) ?_
   cases e:b (p.getD 0 0) (p.getD (m-1) 0) with
   |true=>simp only[if_true];exact q m p P c ⋯ a
   |false=>
    simp only[SF,if_false];have g: ∀i j,i<m->j<m->b (p.getD i 0) (p.getD j 0)=false:=λi j k h=>O.tr (O.tr (a j (m-1) ⋯ (by grind)) e) (a 0 i (by simp) k)
    have f: ∀i,i<m->(X1 p 0 m).getD i 0=p.getD (0+m-1-i) 0:=λi k=>by rw[nL ⋯,if_pos (by nofun)]
    refine oK O hN hc (P.rev _ _) c (by grind) (Fal.succ O (λi j l h=>?_) c ?_) q
    ·rw[f i ⋯,f j h];exact g _ _ (by omega) (by omega)
    ·have r:(X1 p 0 m).getD m 0=p.getD m 0:=by rw[nL (by grind),if_neg (by simp)]
     rw[r,f (m-1) ⋯];exact O.tr (O.as lt) (g _ _ ⋯ ⋯)
  ·have:m=1:=by grind
   subst this;exact oK O hN hc P (Sn _) ⋯ ((Ik O p).succ O (Sn _) (O.as lt)) q
theorem pM {p:Array Nat}(P:Pm N p)(d:Srt b p k): ∀(f l r:Nat),l<=r->r<=k->r-l<=f->(∀i,i<l->b (p.getD k 0) (p.getD i 0)=θ)->(∀i,r<=i->i<k->b (p.getD k 0) (p.getD i 0)=ζ)->
 (∀m,m<=k->(∀i,i<m->b (p.getD k 0) (p.getD i 0)=θ)->(∀i,m<=i->i<k->b (p.getD k 0) (p.getD i 0)=ζ)->Q m s)->(kas_place p k f l r).kasWp cmp Q s
 |0,l,r,g,j,h,a,c,q=>q l ⋯ a λi z=>c i ⋯
 |f+1,l,r,g,j,h,a,c,q=>by
  unfold kas_place;split
  ·exact q l (by grind) a λi z=>c i ⋯
  ·rename_i n
   refine hc _ _ _ (P.lt hN _) (P.lt hN _) ?_
   cases e:b (p.getD k 0) (p.getD ((l+r) / 2) 0) with
   |true=>
    simp only[if_true];refine pM P d f l _ (by grind) ⋯ (by omega) a (λi t o=>?_) q;cases e2:b (p.getD k 0) (p.getD i 0) with
    |true=>rfl
    |false=>
     have:=O.tr (d ((l+r) / 2) i t o) e2;rw[e] at this;nofun
   |false=>
    simp only[SF,if_false];exact pM P d f _ r ⋯ (by omega) ⋯ (λi z=>O.tr (d i ((l+r) / 2) (by omega) ⋯) e) c q
omit hN hc in
theorem Ai {p:Array Nat}{k m:Nat}(r:k<p.size)(n:Srt b p k)(t:m<=k)(a: ∀i,i<m->b (p.getD k 0) (p.getD i 0)=θ)(c: ∀i,m<=i->i<k->b (p.getD k 0) (p.getD i 0)=ζ):Srt b (bubble p k (k-m)) (k+1):=by
 have g: ∀j,(bubble p k (k-m)).getD j 0=if j=m then p.getD k 0 else if m<j/\j<=k then p.getD (j-1) 0 else p.getD j 0:=λj=>by
  have:=getElem?_bubble r (k-m) (by simp) j;rw[show k- (k-m)=m by lia] at this
  by_cases h:j=m
  ·rw[if_pos h] at this⊢;exact Lh this
  ·rw[if_neg h] at this⊢
   by_cases q:m<j/\j<=k
   ·nofun
   ·rw[if_neg q] at this⊢;exact Lh this
 intro i j l s;rw[g,g]
 by_cases o:j=m
 ·rw[if_pos o]
  by_cases d:i=m
  ·rw[if_pos d];exact O.rf _
  ·rw[if_neg d,if_neg ⋯];exact a i ⋯
 ·rw[if_neg o]
  by_cases d:i=m
  ·rw[if_pos d,if_pos (by omega)];exact O.as (c _ ⋯ (by grind))
  ·rw[if_neg d]
   by_cases f:m<j/\j<=k
   ·rw[if_pos f]
    by_cases e:m<i/\i<=k
    ·rw[if_pos e];exact n _ _ (by omega) (by omega)
    ·rw[if_neg e];exact n _ _ (by grind) ⋯
   ·rw[if_neg f,if_neg ⋯];exact n _ _ l ⋯
theorem Hn: ∀(f:Nat) (p:Array Nat) (k:Nat),Pm N p->1<=k->k+f=N->Srt b p k->(∀a,Pm N a->Srt b a N->Q a s)->(kas_bin f p k).kasWp cmp Q s
 |0,p,k,P,d,l,c,q=>q p P (by nofun)
 |f+1,p,k,P,d,l,c,q=>by
  unfold kas_bin;rw[WO];have hz:=P.size;refine pM O hN hc P c k 0 k (Uv _) (Sn _) (by simp) (λi z=>absurd z (by simp)) (λi n h=>absurd h ⋯) λm j e g=>?_
  exact Hn f _ (k+1) ⟨(bubble_perm _ _ _).trans P.perm⟩ (by simp) ⋯ (Ai O ⋯ c j e g) q
theorem wg(q: ∀p,Pm N p->Srt b p N->Q p s):(jaL N).kasWp cmp Q s:=by
 unfold jaL;rw[WO];refine F1 O hN hc ⟨Array.Perm.refl _⟩ λm a P d e c=>?_
 dsimp only;split
 ·exact Hn O hN hc _ a _ P (by nofun) (by nofun) (by rw[show max m 1=m by simp_all];exact c) q
 ·have:m=N:=by lia
  subst this;exact q a P c
end
open PySem PySem.W PySem.Calls PyProof.Rows
section
variable {A:Tb}
theorem qz{us:List Sb}{P:PySem.Fin->Sc->Prop}(j:s.heap.get? a=p5 (Wf "list" us.toArray n))(hz:us.length<64)
 (l:us.length<2->P (.done (.ret .none)) {s with heap:=Xq s.heap a us us.toArray})
 (b:2<=us.length-> ∀g:Heap,(∀c o,c≠a->s.heap.get? c=p5 o->g.get? c=p5 o)->Sy (model prog w) A (keyKind' us.toArray) (λκ t=>t={s with heap:=g}/\
   (jaL us.length).kasWp (jaM prog w A κ us) (λp t'=>t'=t/\P (.done (.ret .none)) {s with heap:=Xq s.heap a us (Uy (p.toList.map λi=>us.getD i Te))}) t) (λ_ _=>False) {s with heap:=g}):
 Sy (model prog w) A (Ux.«list.sort» ⟨[.ref a],[]⟩) P E s:=by
 have N:a<s.heap.objs.size:=Sw j;have M:us.toArray.size<=sizeLine:=by grind[TY]
 obtain⟨F,q⟩: ∃c,(s.heap.update a (Vl λ_=> #[])).get? a=p5 (Wf "list" #[] c):=⟨_,get?_update_seq j (λ_=> #[])⟩
 have k:(((s.heap.update a (Vl λ_=> #[])).push (Wf "tuple" us.toArray 0)).push (Wf "list" #[] 0)).get? a=p5 (Wf "list" #[] F):=Sd _ (Sd _ q);have C: ∀c o,c≠a->s.heap.get? c=p5 o->(((s.heap.update a (Vl λ_=> #[])).push (Wf "tuple" us.toArray 0)).push (Wf "list" #[] 0)).get? c=p5 o:=λc o R e=>
  Sd _ (Sd _ (by grind[Heap.get?_update_ne]))
 rw[list_sort_plain];refine R8 (listItems_at j rfl (R8 (Z2 j rfl ?_ M (Uv _))));refine R8 (jbF q rfl (R8 (wpAny_newTuple ?_ (show us.length<=_ by omega))));refine R8 (Z3 (Tr ?_) (Uv _));show Sy (model prog w) A _ P E {s with heap:=((s.heap.update a (Vl λ_=> #[])).push (Wf "tuple" us.toArray 0)).push (Wf "list" #[] 0)};dsimp only
 by_cases h:us.toArray.size<2
 ·rw[if_pos h,if_pos h];refine R8 (Sa ?_);rw[StateT.run_pure];refine R8 (Sa ?_);dsimp only;have S:Array.map (λx=>x.2) (us.toArray.zip us.toArray)=us.toArray:=by
   grind
  refine R8 (jbF k rfl (R8 (Z2 k rfl ?_ (Uv _) ?_)))
  ·simp only[bne_self_eq_false,SF,if_false];refine Sa ?_
   have:=l (by omega);show P _ {s with heap:=Xq s.heap a us (Array.map (λx=>x.2) (us.toArray.zip us.toArray))};lia
  lia
 ·rw[if_neg h,if_neg h];have d:2<=us.length:=by nofun
  refine R8 (Tl (b d _ C) (λκ t ⟨B,y⟩=>?_) λ_ _ x=>x.elim)
  subst B;refine R8 (Tl (kat_run (ks:=us) (vs:=us) (G:=λp t'=>t'=_/\P (.done (.ret .none)) {s with heap:=Xq s.heap a us (Uy (p.toList.map λi=>us.getD i Te))})
   (Q:=λst t'=>t'=_/\failedOf st=ξ/\ ∃p:Array Nat,p.size=us.length/\(arrOf st).map (·.2)=Uy (p.toList.map λi=>us.getD i Te)/\P (.done (.ret .none)) {s with heap:=Xq s.heap a us (Uy (p.toList.map λi=>us.getD i Te))})
   rfl d hz (λp st t' D J z m=>⟨m.1,z,p,D,kat_snds rfl J,m.2⟩) y) (λr t' H=>?_) λ_ _ x=>x)
  obtain⟨u,st⟩:=r;obtain⟨L,v,p,O,f,I⟩:=H;subst L;dsimp only at v f⊢;rw[f,v];have K:(Uy (p.toList.map λi=>us.getD i Te)).size<=sizeLine:=by nofun
  refine R8 (jbF k rfl (R8 (Z2 k rfl ?_ (Uv _) (Nat.le_succ_of_le K))));simp only[bne_self_eq_false,SF,if_false];exact Sa I
theorem zQ{o:Obj}{us:List Sb}(m:T="list"\/T="tuple")(x:s.heap.get? l=p5 o)(v:o.cls=.type T)(j:o.data=.seq us.toArray n)(hz:us.length<64)
 (q: ∀g:Heap,(∀b u,s.heap.get? b=p5 u->g.get? b=p5 u)->s.heap.objs.size<=g.objs.size->Q us {s with heap:=g}):Sy (model prog w) A (collect (.ref l)) Q E s:=by
 have z:us.toArray.size<=sizeLine:=by grind[TY]
 have d:(s.heap.push {cls:=.type "list",data:=.seq ([]:List Sb).toArray}).get? s.heap.objs.size=p5 {cls:=.type "list",data:=.seq #[] 0}:=Sj _ rfl;have p:=Ti (Vl (·++us.toArray)) d rfl
 have a:Sy (model prog w) A (do
  match (<-load s.heap.objs.size).data with
   |Data.seq xs _=>pure xs.toList
   |_=>UL "internal:collect") Q E {s with heap:=(s.heap.push {cls:=.type "list",data:=.seq ([]:List Sb).toArray}).update s.heap.objs.size (Vl (·++us.toArray))}:=by
  refine R8 (jct p (Sa ?_));show Q ((#[]:Array Sb)++us.toArray).toList _;rw[show((#[]:Array Sb)++us.toArray).toList=us by simp];refine q _ (λb u e=>(Um _ _ (Uc (Sw e))).trans (Sd _ e)) ?_
  simp
 unfold collect;refine R8 (ZH (UM Zt ?_));rw[UE Zu _];show Sy _ A.in1 (jaJ []>>=λr=>ZD (.builtin "list.__iadd__" ⟨[r,.ref l],[]⟩)) _ _ s;refine R8 (TR (Sa ⟨YG W4 _,UM jaN ?_⟩));rw[UE W4 _];show Sy _ A.in1 (X2 (.ref s.heap.objs.size) (.ref l) (.ref s.heap.objs.size)) _ _ _;have ext:=wpAny_extend_seq (prog:=prog) (w:=w) (A:=A) (hsz:=z) (R:=λr t=>r=.ok (.ret (.ref s.heap.objs.size))/\t={s with heap:=(s.heap.push {cls:=.type "list",data:=.seq ([]:List Sb).toArray}).update s.heap.objs.size (Vl (·++us.toArray))})
  (s:={s with heap:=s.heap.push {cls:=.type "list",data:=.seq ([]:List Sb).toArray}}) _ l (.ref s.heap.objs.size) 0 m d (Sd _ x) v j ⟨rfl,rfl⟩
 refine Tl ext (λfin t h=>?_) (λe t h=>absurd h.1 (by simp));cases fin with
 |done f=>
  obtain⟨i,rfl⟩:=h;cases i;exact a
 |again c=>
  refine⟨h.1,Vc h.2 λr u k=>?_⟩;obtain⟨rfl,rfl⟩:=k;exact a
theorem uN{o:Obj}{us:List Sb}{G:List Nat->Prop}(I:T="list"\/T="tuple")(K:s.heap.get? l=p5 o)(D:o.cls=.type T)(F:o.data=.seq us.toArray n)(hz:us.length<64)
 (z:us.length<2->G (R9 us.length))
 (d:2<=us.length-> ∀g:Heap,(∀c o,s.heap.get? c=p5 o->g.get? c=p5 o)->Sy (model prog w) A.in1.in1 (keyKind' us.toArray) (λκ t=>t={s with heap:=g}/\
   (jaL us.length).kasWp (jaM prog w A.in1.in1 κ us) (λp t'=>t'=t/\G p.toList) t) (λ_ _=>False) {s with heap:=g})
 (fin: ∀(g:Heap) (a e:Nat) (b:List Nat),(∀c o,s.heap.get? c=p5 o->g.get? c=p5 o)->s.heap.objs.size<=a->G b->g.get? a=p5 (Wf "list" (Uy (b.map λi=>us.getD i Te)) e)->Q (.ref a) {s with heap:=g}):
 Sy (model prog w) A (call (.builtin "sorted") [.ref l]) Q E s:=by
 refine Yi kind_sorted plain_sorted entry_sorted (args_sorted1 _) ?_
 unfold Ux.«sorted»;refine R8 (m:=checkCount "sorted" 1 1 _) (Sa (R8 (zQ I K D F hz λg y B=>?_)));refine R8 (Z3 ?_ (by rw[TY];grind));have q:(g.push (Wf "list" us.toArray 0)).get? g.objs.size=p5 (Wf "list" us.toArray 0):=Sj _ rfl;show Sy _ _ _ _ _ {s with heap:=g.push (Wf "list" us.toArray 0)};have j: ∀b:List Nat,G b->Q (.ref g.objs.size) {s with heap:=Xq (g.push (Wf "list" us.toArray 0)) g.objs.size us (Uy (b.map λi=>us.getD i Te))}:=λb J=>by
  obtain⟨e,H⟩:=sortedHeap_at (out:=Uy (b.map λi=>us.getD i Te)) q;refine fin _ g.objs.size e b (λc u k=>?_) B J H;have lt:=Sw (y c u k);grind[sortedHeap_old,size_push',Sd]
 refine R8 (Tr (Tx slot_list_sort ⟨_,q,rfl⟩ entry_list_sort (qz (P:=λf t=> ∃v,f=.done (.ret v)/\Sy (model prog w) A.in1 (pure (jcK (.ret (SQ g.objs.size)))) (λf t=> ∃v,f=.done (.ret v)/\Q v t) E t) q hz (λh=>?_) (λh g' r=>?_)) (args_list_sort _)))
 ·have e:=j (R9 us.length) (z h)
  rw[show(R9 us.length).map (λi=>us.getD i Te)=us from Wk λi=>by
   grind] at e
  grind[Sa]
 ·refine Tl (d h g' λc u k=>r c u (SW (Sw (y c u k))) (Sd _ (y c u k))) (λκ t ⟨C,L⟩=>⟨C,?_⟩) λ_ _ x=>x
  grind[kat_ask_eq,kas_wp_mono,Sa]
end
open PySem PySem.W PySem.Spec PyProof.Rows
def aT:List Int->List Int->Bool
 |_,[]=>θ
 | [],_::_=>ζ
 |x::xs,y::ys=>if x=y then aT xs ys else decide (x<y)
def NH(x y:Int):Bool:=χ (x<y)
structure Lt {α:Type}(lt:α->α->Bool):Prop where
 tr: ∀ {a b c:α},lt b a=θ->lt c b=θ->lt c a=θ
 as: ∀ {a b:α},lt a b=ζ->lt b a=θ
 eq: ∀ {a b:α},lt a b=θ->lt b a=θ->a=b
theorem PM:Lt NH:=⟨λa b=>by simp only[NH,decide_eq_false_iff_not] at*;lia,λh=>by simp only[NH,decide_eq_false_iff_not,zk] at*;omega,λa b=>by simp only[NH,decide_eq_false_iff_not] at*;grind⟩
theorem k7: ∀ {a b:List Int},aT a b=ζ->aT b a=θ
 | [],[],h=>by rfl
 |x::xs,[],h=>by simp[aT] at h
 | [],y::ys,h=>by rfl
 |x::xs,y::ys,h=>by
  unfold aT at h⊢
  by_cases e:x=y
  ·subst e;simp only[if_true] at h⊢;exact k7 h
  ·rw[if_neg e] at h;grind
theorem wU: ∀ {a b:List Int},aT a b=θ->aT b a=θ->a=b
 | [],[],_,_=>rfl
 |x::xs,[],_,h=>by simp[aT] at h
 | [],y::ys,h,_=>by simp[aT] at h
 |x::xs,y::ys,h,h'=>by
  unfold aT at h h'
  by_cases e:x=y
  ·subst e;simp only[if_true] at h h';rw[wU h h']
  lia
theorem va: ∀ {a b c:List Int},aT b a=θ->aT c b=θ->aT c a=θ
 | [],_,_,_,_=>by simp[aT]
 |x::xs,[],_,h,_=>by simp[aT] at h
 |x::xs,y::ys,[],_,h=>by simp[aT] at h
 |x::xs,y::ys,z::zs,d,e=>by
  unfold aT at d e⊢
  by_cases f:y=x
  ·subst f;simp only[if_true] at d
   by_cases g:z=y
   ·subst g;simp only[if_true] at e⊢;exact va d e
   nofun
  grind
theorem wz:Lt aT:=⟨va,k7,wU⟩
def Aj {α:Type}(lt:α->α->Bool)(x:α):List α->List α
 | []=>[x]
 |y::r=>if lt x y=ζ then x::y::r else y::Aj lt x r
def bz {α:Type}(lt:α->α->Bool):List α->List α
 | []=>[]
 |x::r=>Aj lt x (bz lt r)
section
variable {α:Type}
theorem nh(x:α): ∀l:List α,(Aj lt x l).Perm (x::l)
 | []=>.refl _
 |y::r=>by
  unfold Aj;split
  ·rfl
  ·exact((nh x r).cons y).trans (.swap _ _ _)
theorem bw: ∀l:List α,(bz lt l).Perm l
 | []=>.refl _
 |x::r=>(nh x _).trans ((bw r).cons x)
theorem Bo(O:Lt lt)(x:α): ∀ {l:List α},l.Pairwise (λa b=>lt b a=θ)->(Aj lt x l).Pairwise (λa b=>lt b a=θ)
 | [],_=>by simp[Aj]
 |y::r,h=>by
  obtain⟨c,d⟩:=US.mp h;unfold Aj;split
  ·rename_i e
   refine US.mpr ⟨λz hz=>?_,h⟩;rcases SU.mp hz with rfl|hz
   ·exact O.as e
   ·exact O.tr (O.as e) (c z hz)
  ·rename_i e
   refine US.mpr ⟨λz hz=>?_,Bo O x d⟩;grind[nh]
theorem ib(O:Lt lt): ∀l:List α,(bz lt l).Pairwise (λa b=>lt b a=θ)
 | []=>.nil
 |x::r=>Bo O x (ib O r)
theorem nZ(O:Lt lt){l c:List α}(p:c.Perm l)(s:c.Pairwise (λa b=>lt b a=θ)):c=bz lt l:=
 YH (λa b _ _ d e=>O.eq e d) s (ib O l) (p.trans (bw l).symm)
theorem kU(a:List α)(d:α):(R9 a.length).map (λi=>a.getD i d)=a:=Wk λi=>by
 by_cases b:i<a.length
 ·simp[b]
 ·simp[b]
theorem jn(O:Lt lt){a:List α}{p:Array Nat}(P:Pm a.length p)(S:Srt (λi j=>lt (a.getD i d) (a.getD j d)) p a.length):p.toList.map (λi=>a.getD i d)=bz lt a:=by
 refine nZ O ?_ ?_
 ·have c:p.toList.Perm (R9 a.length):=by simpa using (Array.perm_iff_toList_perm.mp P.perm)
  have b:=c.map (λi=>a.getD i d);rw[kU] at b;exact b
 ·rw[Uh,T9];intro i j m l f;have hz:=P.size;have e:=S i j ⋯ (by nofun);have g: ∀k (h:k<p.toList.length),p.getD k 0=p.toList[k]:=λk h=>by
   have:k<p.size:=by omega
   simp[Z6,this]
  rw[g i m,g j l] at e;exact e
theorem FP(O:Lt lt)(f:Nat->α):Od (λi j=>lt (f i) (f j)):=⟨λa b=>O.tr a b,λh=>O.as h⟩
end
def Am:D->Option (List Int)
 | .tup ds=>match b9 ds with
   |some (x::r)=>p5 (x::r)
   |_=>ξ
 |_=>ξ
def lh:List D->Option (List (List Int))
 | []=>p5 []
 |d::r=>(Am d).bind λk=>(lh r).map (k:: ·)
def aQ(k:List Int):D:=.tup (k.map D.int)
def km(ds:List D):Option (List D):=if ds.length<64 then match b9 ds with
 |some ns=>p5 ((bz NH ns).map D.int)
 |none=>(lh ds).map λks=>(bz aT ks).map aQ else ξ
theorem fy(ns:List Int):b9 (ns.map D.int)=p5 ns:=by
 induction ns with
 |nil=>rfl
 |cons n ns a=>show(b9 (ns.map D.int)).map (n:: ·)=_;nofun
theorem Kr(h:Am d=p5 k):d=aQ k/\k≠[]:=by
 unfold Am at h;split at h
 ·split at h
  ·rename_i e;cases h;rw[cJ e];exact⟨rfl,by simp⟩
  nofun
 nofun
theorem JN(h:k≠[]):Am (aQ k)=p5 k:=by
 unfold Am aQ;dsimp only;rw[fy];cases k with
 |nil=>exact absurd rfl h
 |cons x r=>rfl
theorem rH: ∀ {ds:List D} {ks:List (List Int)},lh ds=p5 ks->ds=ks.map aQ/\ ∀k∈ks,k≠[]
 | [],_,h=>by cases h;simp
 |d::r,ks,h=>by
  unfold lh at h;cases e1:Am d with
  |none=>nofun
  |some k=>
   rw[e1] at h;cases e2:lh r with
   |none=>nofun
   |some l=>
    rw[e2] at h;cases h;obtain⟨a,c⟩:=Kr e1;obtain⟨e,b⟩:=rH e2;nofun
theorem ya: ∀ {ks:List (List Int)},(∀k∈ks,k≠[])->lh (ks.map aQ)=p5 ks
 | [],_=>rfl
 |k::r,h=>by
  show(Am (aQ k)).bind (λa=>(lh (r.map aQ)).map (a:: ·))=_;rw[JN (h k (by simp)),ya λz hz=>h z (by simp[hz])];rfl
theorem D2 {k:List Int}{ks:List (List Int)}:b9 ((k::ks).map aQ)=none:=rfl
theorem iN {α:Type}{lt:α->α->Bool}{l:List α}(h:l.length<2):bz lt l=l:=by
 match l,h with
 | [],_=>rfl
 | [_],_=>rfl
theorem nC {xs:List V}{us:List Sb}(r:cb xs us)(i:Nat):bS (xs.getD i .non) (us.getD i Te):=by
 cases e:xs[i]? with
 |none=>
  have b:=r.length;have:us[i]? =none:=by nofun
  simp[Wc,e,this];rfl
 |some x=>
  obtain⟨u,a,c⟩:=r.get e;nofun
theorem nQ {xs:List V}{us:List Sb}(r:cb xs us): ∀a:List Nat,cb (a.map λi=>xs.getD i .non) (a.map λi=>us.getD i Te)
 | []=>.nil
 |i::l=>.cons (nC r i) (nQ r l)
theorem tQ {K:Sf}{xs:List V}{ds:List D}(r:Reps K F xs ds)(i:Nat):Rep K F (xs.getD i .non) (ds.getD i .non):=by
 cases e:ds[i]? with
 |none=>
  have b:=r.length;have:xs[i]? =none:=by nofun
  simp[Wc,e,this];exact .non
 |some x=>
  obtain⟨u,a,c⟩:=r.get e;nofun
theorem nA {K:Sf}{xs:List V}{ds:List D}(r:Reps K F xs ds): ∀a:List Nat,Reps K F (a.map λi=>xs.getD i .non) (a.map λi=>ds.getD i .non)
 | []=>.nil
 |i::l=>.cons (tQ r i) (nA r l)
def vf:List Sb->List Int->Prop:=Paired λu i=> ∃t,u=Xn i t
theorem u3 {K:Sf}: ∀ {xs:List V} {us:List Sb} {ns:List Int},cb xs us->Reps K F xs (ns.map D.int)->vf us ns
 |_,_,[],r,p=>by cases p;cases r;exact .nil
 |_,_,n::ns,r,p=>by
  cases p with
  |cons c b=>cases r with
   |cons a d=>cases c;exact .cons a (u3 d b)
theorem xP: ∀ {us:List Sb} {ns:List Int} {i:Nat} {u:Sb},vf us ns->us[i]? =p5 u-> ∃n,ns[i]? =p5 n/\ ∃t,u=Xn n t
 |_,_,_,_,.nil,e=>by simp at e
 |_,_,0,_,.cons h _,e=>by nofun
 |_,_,i+1,u,.cons _ r,e=>by
  obtain⟨n,a,b⟩:=xP (i:=i) (u:=u) r (by simpa using e);nofun
section
theorem Cp {us c:List Sb}{ns a:List Int}(i:Nat)(h:vf us ns)(k:vf c a)(e:fin=χ (ns.length<a.length))(q:Q (aT ns a) s):KatLex prog w A b fin Q (us.zip c) i s:=by
 subst e
 induction h generalizing c a i with
 |nil=>
  cases k with
  |nil=>exact kat_nil q
  |cons _ _=>exact kat_nil (by simpa [aT] using q)
 |cons f p l=>
  cases k with
  |nil=>rw[List.zip_nil_right];exact kat_nil (by simpa [aT] using q)
  |cons g j=>
   rename_i _ n _ ns _ m _ a;obtain⟨t,rfl⟩:=f
   obtain⟨t',rfl⟩:=g;rw[WQ];refine kat_cons (jbc (kat_go (λo=>?_) λo=>?_))
   ·have:n=m:=by lia
    subst this;refine kat_yes ?_
    have:=l (i+1) j (by simpa [aT] using q);nofun
   ·have:n≠m:=by lia
    have d:Q (χ (n<m)) s:=by grind[aT]
    refine kat_no ?_
    cases (b&&i==0) with
    |true=>exact oneLt_int d
    |false=>exact kat_one _ _ (jgl d)
end
theorem ou {X:Cx}:dq X (.builtin "sorted") (λxs H Q=> ∃a ys ds es,xs=[.ref a]/\(SqL X.K H a ys\/SqT X.K H a ys)/\Reps X.K H ys ds/\km ds=p5 es/\
 ∀(l:Addr) (y:List Nat),H l=ξ->y.length=ds.length->y.map (λi=>ds.getD i .non)=es->Q (.ref l) (aV H l (.lst (y.map λi=>ys.getD i .non)))):=by
 intro aa s σ H xs us Q I r h;obtain⟨a,ys,ds,es,rfl,hsq,rp,d,q⟩:=h;obtain⟨u,rfl,rx⟩:=fE r;cases rx;obtain⟨c,T,o,n,U,hT,F,B,J⟩: ∃(c:List Sb) (T:String) (o:Obj) (n:Nat),cb ys c/\(T="list"\/T="tuple")/\s.heap.get? a=some o/\o.cls=.type T/\o.data=.seq c.toArray n:=by
  rcases hsq with hq|hq
  ·obtain⟨c,N,Y,hz⟩:=I.list hq;obtain⟨o,F,B,n,J⟩:=Y.isList;exact⟨c,"list",o,n,N,.inl rfl,F,B,J⟩
  ·obtain⟨c,N,Y,hz⟩:=I.tuple hq;obtain⟨o,F,B,n,J⟩:=Y;exact⟨c,"tuple",o,n,N,.inr rfl,F,B,J⟩
 have l1:=U.length;have l2:=rp.length;have h64:ds.length<64:=by
  unfold km at d;nofun
 unfold km at d;rw[if_pos h64] at d;refine uN (G:=λy=>y.length=ds.length/\y.map (λi=>ds.getD i .non)=es) hT F B J (by nofun) (λfew=>⟨by nofun,?_⟩) (λh2 g R=>?_) (λg p e y R hp hG V=>?_)
 ·rw[show c.length=ds.length by nofun,kU];cases e1:b9 ds with
  |some ns=>
   rw[e1] at d;cases d;have:=cJ e1;grind[iN]
  |none=>
   rw[e1] at d;cases L:lh ds with
   |none=>nofun
   |some ks=>
    rw[L] at d;cases d;obtain⟨h3,_⟩:=rH L;grind[iN]
 ·cases e1:b9 ds with
  |some ns=>
   rw[e1] at d;cases d;have e0:=cJ e1;subst e0;have hv:=u3 U rp;have M:c.length=ns.length:=by nofun
   have E: ∀i,i<ns.length-> ∃t,c.getD i Te=Xn (ns.getD i 0) t:=λi f=>by
    have L:c[i]? =p5 c[i]:=Su (by nofun);obtain⟨m,e3,t,e4⟩:=xP hv L;nofun
   refine kas_kind (T:=.type "int") h2 (λv hv'=>?_) (by rfl) (by rfl) ⟨rfl,?_⟩
   ·obtain⟨i,f,rfl⟩:=VL hv';obtain⟨t,e⟩:=E i (by grind);have:c[i]=c.getD i Value.none:=by simp[Wc,Su f]
    rw[this,e];exact jeb
   ·rw[M];refine wg (b:=λi j=>NH (ns.getD i 0) (ns.getD j 0)) (FP PM _) ⋯ (λi j C f hj Z=>?_) λp P S=>⟨rfl,?_,?_⟩
    ·obtain⟨t,e⟩:=E i f;obtain⟨t',e'⟩:=E j hj;unfold jaM;rw[e,e'];exact kat_lt_int Z
    ·rw[SV,P.size];simp
    ·have:=congrArg (jaO D.int) (jn PM P S);rw[<-this,SJ];refine TC λi f=>?_
     have:i<ns.length:=by
      have:=P.perm.mem_iff.mp (Wn.mp f);nofun
     nofun
  |none=>
   rw[e1] at d;cases L:lh ds with
   |none=>nofun
   |some ks=>
    rw[L] at d;cases d;obtain⟨h3,h4⟩:=rH L;subst h3;have M:c.length=ks.length:=by nofun
    have E: ∀i,i<ks.length-> ∃(b:Addr) (o:Obj) (A:List Sb) (n:Nat),c.getD i Te=.ref b/\s.heap.get? b=p5 o/\o.cls=.type "tuple"/\o.data=.seq A.toArray n/\vf A (ks.getD i []):=λi f=>by
     have r1:=nC U i;have W:=tQ rp i;have e3:(ks.map aQ).getD i .non=.tup ((ks.getD i []).map D.int):=by grind[aQ]
     rw[e3] at W;generalize hx:ys.getD i .non=x at r1 W;cases W with
     |tup q1 q2=>
      obtain⟨A,N,⟨o,F,B,n,J⟩,_⟩:=I.tuple (SqT.of q1);exact⟨_,o,A,n,r1,F,B,J,u3 N q2⟩
    have kt: ∀(l:List Sb) (z:List (List Int)),l.length=z.length->(∀i,i<z.length-> ∃(b:Addr) (o:Obj) (A:List Sb) (n:Nat),l.getD i Te=.ref b/\s.heap.get? b=p5 o/\o.cls=.type "tuple"/\o.data=.seq A.toArray n/\vf A (z.getD i []))->(∀k∈z,k≠[])->
     ∃O,KatTups g l O/\O.length=l.length/\ ∀v∈O,∃i t,v=Xn i t:=by
     intro l
     induction l with
     |nil=>intro z _ _ _;exact⟨[],.nil,rfl,λ_ h=>nomatch h⟩
     |cons v l ih=>
      intro z M V hk;cases z with
      |nil=>cases M
      |cons m z=>
       obtain⟨O,f1,f2,f3⟩:=ih z (by nofun) (λi f=>by simpa using V (i+1) (by nofun)) λk hk'=>hk k (by nofun)
       obtain⟨b,o,A,n,g1,g2,g3,g4,g5⟩:=V 0 (by simp);simp[Wc] at g1 g5;subst g1;cases m with
       |nil=>nofun
       |cons x xs=>
        cases g5 with
        |cons y1 y2=>
         obtain⟨t,rfl⟩:=y1;refine⟨_,jeI (R _ _ g2) g3 g4 (by simp;rfl) f1,by simp[f2],λv hv=>?_⟩;rcases SU.mp hv with rfl|hv
         ·simp
         nofun
    obtain⟨O,f1,f2,f3⟩:=kt c ks M E h4;refine kat_kind (T:=.type "int") f1 ⋯ (λv hv=>?_) (by rfl) ⟨rfl,?_⟩
    ·obtain⟨i,t,rfl⟩:=f3 v hv;exact jeb
    ·rw[M];refine wg (b:=λi j=>aT (ks.getD i []) (ks.getD j [])) (FP wz _) (by grind) (λi j C f hj Z=>?_) λp P S=>⟨rfl,?_,?_⟩
     ·obtain⟨b1,o1,ts1,n1,x1,x2,x3,x4,x5⟩:=E i f;obtain⟨b2,o2,ts2,n2,y1,y2,y3,y4,y5⟩:=E j hj;unfold jaM;rw[x1,y1];refine kat_lt (R _ _ x2) x4 (R _ _ y2) y4 ?_
      refine Cp 0 x5 y5 ?_ Z;have z1:=Vd x5;have z2:=Vd y5;grind
     ·rw[SV,P.size];simp
     ·have:=congrArg (jaO aQ) (jn wz P S);dsimp only;rw[<-this,SJ];refine TC λi f=>?_
      have:i<ks.length:=by
       have:=P.perm.mem_iff.mp (Wn.mp f);nofun
      nofun
 ·refine⟨.ref p,_,I.laid (t':=s.toks) R hp (show b6 X.prog X.w _ g _ (.lst (y.map λi=>ys.getD i .non)) from⟨?_,_,e,nQ U y,V⟩),rfl,q _ y (I.hok.fresh hp) hG.1 hG.2⟩;rw[Sm,hG.1,TY];lia
def pB:List D->Option D
 | [.lst ds]=>(km ds).map D.lst
 | [.tup ds]=>(km ds).map D.lst
 |_=>ξ
theorem sV {K:Sf}:ie K .n (λxs H Q=> ∃a ys ds es,xs=[.ref a]/\(SqL K H a ys\/SqT K H a ys)/\Reps K H ys ds/\km ds=p5 es/\
 ∀(l:Addr) (b:List Nat),H l=ξ->b.length=ds.length->b.map (λi=>ds.getD i .non)=es->Q (.ref l) (aV H l (.lst (b.map λi=>ys.getD i .non)))) pB:=by
 intro H hid vs ds d Q m h r q;unfold pB at h;split at h
 ·rename_i zs
  cases e:km zs with
  |none=>nofun
  |some es=>
   rw[e] at h;cases h;obtain⟨x,rfl,j⟩:=d3.one r;obtain⟨a,xs,rfl,g,f⟩:=j.lst;refine⟨a,xs,zs,es,rfl,.inl g,f.mono (cu _ _),e,λl b c _ k=>q _ _ (aM c _) (gL c (ab.refl _) ?_)⟩;rw[<-k];exact nA f b
 ·rename_i zs
  cases e:km zs with
  |none=>nofun
  |some es=>
   rw[e] at h;cases h;obtain⟨x,rfl,j⟩:=d3.one r;obtain⟨a,xs,rfl,_,g,f⟩:=j.tup;refine⟨a,xs,zs,es,rfl,.inr g,f.mono (cu _ _),e,λl b c _ k=>q _ _ (aM c _) (gL c (ab.refl _) ?_)⟩;rw[<-k];exact nA f b
 nofun
section
variable {prog:SS}{w:Tf}{A:Tb}{R:Y3->Sc->Prop}{s:Sc}{t1 t2 i1 i2:Expr}{ifs1 ifs2:List Expr}{it acc:Sb}
theorem JE:jaI (.ListComp elt [⟨t1,i1,ifs1,0⟩,⟨t2,i2,ifs2,0⟩] scope pos) 1 it acc env=(do
 Yn i2.pos
 match <-VX it with
 |none=>pure (.done .next)
 |some v=>
  Vq t2 it v
  VS t2 env v
  let ok <-lI ifs2 env
  if ok=ζ then do(do let _ <-call (.builtin "list.append") [acc,<-eval elt env]);ZD (.compLoop (.ListComp elt [⟨t1,i1,ifs1,0⟩,⟨t2,i2,ifs2,0⟩] scope pos) 1 it acc env)
  else ZD (.compLoop (.ListComp elt [⟨t1,i1,ifs1,0⟩,⟨t2,i2,ifs2,0⟩] scope pos) 1 it acc env)):=by rfl
theorem G7:jaI (.ListComp elt [⟨t1,i1,ifs1,0⟩,⟨t2,i2,ifs2,0⟩] scope pos) 0 it acc env=(do
 Yn i1.pos
 match <-VX it with
 |none=>pure (.done .next)
 |some v=>
  Vq t1 it v
  VS t1 env v
  let ok <-lI ifs1 env
  if ok=ζ then do
   let x <-eval i2 env
   Yn i2.pos
   let x <-TH i2 env x
   let _ <-runOwn (.compStart (.ListComp elt [⟨t1,i1,ifs1,0⟩,⟨t2,i2,ifs2,0⟩] scope pos) 1 (<-Wi [x] (YA x)) acc env) env
   ZD (.compLoop (.ListComp elt [⟨t1,i1,ifs1,0⟩,⟨t2,i2,ifs2,0⟩] scope pos) 0 it acc env)
  else ZD (.compLoop (.ListComp elt [⟨t1,i1,ifs1,0⟩,⟨t2,i2,ifs2,0⟩] scope pos) 0 it acc env)):=by rfl
abbrev Hm:=(Sc->Prop)->Sc->Prop
def AS(prog:SS)(w:Tf)(A:Tb)(d:Expr)(acc:Sb)(c:Env):Hm:=λQ s=>
 Sy (model prog w) A (eval d c) (λx b=>Sy (model prog w) A (call (.builtin "list.append") [acc,x]) (λ_ a=>Q a) (λ_ _=>False) b) (λ_ _=>False) s
def wF(prog:SS)(w:Tf)(A:Tb)(e d:Expr)(acc:Sb)(b:Env):Hm:=λQ s=>
 Sy (model prog w) A (eval d b) (λx c=>Sy (model prog w) A (YA x) (λit a=>Vo (model prog w) A (.compStart e 1 it acc b) (λr s'=>match r with
  | .ok _=>Q s'
  | .error _=>False) a) (λ_ _=>False) c) (λ_ _=>False) s
def E5(prog:SS)(w:Tf)(A:Tb)(f:Code)(h:Expr)(g:List Expr)(it:Sb)(d:Env)(TA:Hm)(R:Y3->Sc->Prop):Prop:= ∀(I:Nat->Sc->Prop),
 (∀n s,I n s->Sy (model prog w) A (VX it) (λr a=>match r with
   |none=>R (.ok .next) a
   |some v=>Sy (model prog w) A (Vq h it v) (λ_ a=>Sy (model prog w) A (VS h d v) (λ_ e=>
     Sy (model prog w) A (lI g d) (λok b=>
      if ok=ζ then TA (λc=> ∃m,m<n/\I m c) b
      else∃m,m<n/\I m b) (λ_ _=>False) e) (λ_ _=>False) a) (λ_ _=>False) a) (λ_ _=>False) s)->
 ∀(n:Nat) (s:Sc),I n s->Vo (model prog w) A f R s
theorem F4:E5 prog w A (.compLoop (.ListComp elt [⟨t1,i1,ifs1,0⟩,⟨t2,i2,ifs2,0⟩] scope pos) 1 it acc env) t2 ifs2 it env (AS prog w A elt acc env) R:=by
 intro I turn n s h;have no: ∀ {l:Sb->Sc->Prop} (x:Sb) (s:Sc),False->l x s:=λ_ _ z=>z.elim
 refine jaH rfl I (λn s m=>?_) n h;show Sy _ A ((jaI (.ListComp elt [⟨t1,i1,ifs1,0⟩,⟨t2,i2,ifs2,0⟩] scope pos) 1 it acc env).onRaise (λx=>do jbk x env;Zl x)) _ _ s;refine jbE ?_
 rw[JE];refine R8 (UW (R8 (Tl (turn n s m) (λr f a=>?_) no)));cases r with
 |none=>exact Sa a
 |some v=>
  refine R8 (Tl a (λ_ f a=>R8 (Tl a (λ_ k d=>R8 (Tl d (λok g b=>?_) no)) no)) no);cases ok with
  |false=>exact Sa ⟨rfl,b⟩
  |true=>exact R8 (R8 (Tl b (λx j c=>R8 (Tl c (λ_ i e=>Sa (Sa ⟨rfl,e⟩)) no)) no))
theorem CK(j: ∀x,TH i2 env x=pure x):E5 prog w A (.compLoop (.ListComp elt [⟨t1,i1,ifs1,0⟩,⟨t2,i2,ifs2,0⟩] scope pos) 0 it acc env) t1 ifs1 it env (wF prog w A (.ListComp elt [⟨t1,i1,ifs1,0⟩,⟨t2,i2,ifs2,0⟩] scope pos) i2 acc env) R:=by
 intro I turn n s h;have no: ∀ {q:Sb->Sc->Prop} (x:Sb) (s:Sc),False->q x s:=λ_ _ z=>z.elim
 refine jaH rfl I (λn s u=>?_) n h;show Sy _ A ((jaI (.ListComp elt [⟨t1,i1,ifs1,0⟩,⟨t2,i2,ifs2,0⟩] scope pos) 0 it acc env).onRaise (λx=>do jbk x env;Zl x)) _ _ s;refine jbE ?_
 rw[G7];refine R8 (UW (R8 (Tl (turn n s u) (λr i a=>?_) no)));cases r with
 |none=>exact Sa a
 |some v=>
  refine R8 (Tl a (λ_ i a=>R8 (Tl a (λ_ o d=>R8 (Tl d (λok k b=>?_) no)) no)) no);cases ok with
  |false=>exact Sa ⟨rfl,b⟩
  |true=>
   refine R8 (Tl b (λx m c=>R8 (UW (R8 (Yr (j x) (R8 (Tr (Tl c (λp l g=>?_) no))))))) no);refine R8 (wpAny_runOwn (Vc g λr s' t=>?_));cases r with
   |ok f=>exact Sa ⟨rfl,t⟩
   |error e=>nofun
end
def po(g:FG)(p:FT)(A:FA)(a:aC):List D->Option (List D)
 | []=>p5 []
 |d::r=>(g d a).bind λρ1=>(p ρ1).bind λb=>if b=ζ then(A ρ1).bind λys=>(po g p A a r).map (ys++ ·) else po g p A a r
def Qu(n:Nat)(ρ:aC):Prop:= ∀(i:Nat) (s:Sl),n<=i->ρ[i]? =p5 s->s=.no
def E9(Y:Cx)(c:Ct)(hid:bv)(e:Addr)(L W:Hp)(A:FA)(TA:Hm)(ρ1:aC):Prop:= ∀(g:List (Addr×Obj)) (s:Sc) (σ:St) (H:Hp) (xs:List V) (f zs:List D) (Q:Sc->Prop),Inv Y g σ H s->SR Y.K c hid ρ1 σ H->
 H e=p5 (.lst xs)->Reps Y.K (vw H hid) xs f->xs.length+zs.length<=SC->ab L H->ab W (vw H hid)->(∀i:Nat,Ow ρ1[i]? ->σ[i]? ≠p5 (p5 (.ref e)))->A ρ1=p5 zs->
 (∀(s':Sc) (a:St) (b:Hp) (d:List V),Inv Y g a b s'->SR Y.K c hid ρ1 a b->b e=p5 (.lst d)->Reps Y.K (vw b hid) d (f++zs)->ab L b->ab (vw H hid) (vw b hid)->(∀i:Nat,Ow ρ1[i]? ->a[i]? ≠p5 (p5 (.ref e)))->Q s')->TA Q s
section
variable {Y:Cx}{c:Ct}{g:FG}{p:FT}{A:FA}{TA:Hm}{code:Code}
structure CLG(Y:Cx)(aa:List (Addr×Obj))(c:Ct)(hid:bv)(ρ0:aC)(L W H3:Hp)(D0:Addr)(fp:List Addr)(tn:Nat->Heap->Prop)(g:FG)(p:FT)(A:FA)(ds ys ad0:List D)(n i:Nat)(xs:List V)(ad:List D)(σ':St)(H':Hp)(s':Sc):Prop where
 e:n=ds.length-i
 hi:i<=ds.length
 I:Inv Y aa σ' H' s'
 st:tn i s'.heap
 fr: ∀b∈fp,H' b=ξ
 sr:SR Y.K c hid ρ0 σ' H'
 sm:ab L H'
 ac:H' D0=p5 (.lst xs)
 rp:Reps Y.K (vw H' hid) xs ad
 w:ab W (vw H' hid)
 v:ab (vw H3 hid) (vw H' hid)
 na: ∀i:Nat,Ow ρ0[i]? ->σ'[i]? ≠p5 (p5 (.ref D0))
 go: ∃rest,po g p A ρ0 (ds.drop i)=p5 rest/\ad++rest=ad0++ys
theorem yb(y:Y.calm=ζ)(Ty:Y.xe=λ_ _=>False)(hT:iB n0 g)(hg:wW Y c tg g)(hp:w6 Y c ifs p) {E L W:Hp} {s4:Sc} {hid:bv} {ds ys ad0:List D} {xs0:List V}
 (hA: ∀d ρ1,g d ρ0=p5 ρ1->E9 Y c hid D0 L W A TA ρ1)
 (hN:Qu n0 ρ0) (I:Inv Y aa σ3 E s4) (sr:SR Y.K c hid ρ0 σ3 E) (hh:hid D0=ζ) (na: ∀i:Nat,Ow ρ0[i]? ->σ3[i]? ≠p5 (p5 (.ref D0))) (hacc:E D0=p5 (.lst xs0)) (rp0:Reps Y.K (vw E hid) xs0 ad0) (sm:ab L E) (wv:ab W (vw E hid)) (T:rb Y.prog Y.w Y.K tg J fp it tn) (st:tn 0 s4.heap) (hF: ∀b∈fp,iT Y aa E b)
 (io:NI Y.K L W J ds) (hz:ad0.length+ys.length<=SC) (hc:po g p A ρ0 ds=p5 ys)
 (hTP:E5 Y.prog Y.w Y.A code tg ifs (.ref it) Y.env TA R)
 (hR: ∀(s':Sc) (f:St) (h:Hp) (xs:List V),Inv Y aa f h s'->SR Y.K c hid ρ0 f h->ab L h->h D0=p5 (.lst xs)->Reps Y.K (vw h hid) xs (ad0++ys)->ab (vw E hid) (vw h hid)->(∀i:Nat,Ow ρ0[i]? ->f[i]? ≠p5 (p5 (.ref D0)))->R (.ok .next) s'):
 Vo (model Y.prog Y.w) Y.A code R s4:=by
 have v: ∀ {h:Hp},(∀b∈fp,h b=ξ)-> ∀b∈fp,iT Y aa h b:=λ{h} hn b G=>⟨hn b G,(hF b G).2⟩
 refine hTP (λn s'=> ∃(i:Nat) (xs:List V) (ad:List D) (f:St) (h:Hp),CLG Y aa c hid ρ0 L W E D0 fp tn g p A ds ys ad0 n i xs ad f h s') ?_ ds.length s4
  ⟨0,xs0,ad0,σ3,E,by rfl,Uv _,I,st,λb G=>(hF b G).1,sr,sm,hacc,rp0,wv,ab.refl _,na,ys,by simpa using hc,rfl⟩
 rintro n s5 ⟨i,xs,ad,t,X,rfl,hi,I5,Tm,f5,S,C,P,H,w5,v5,na5,k,a,M⟩;have wH:ab W X:=w5.trans (cu _ _)
 by_cases F:i<ds.length
 ·have hd:ds[i]? =p5 ds[i]:=Su F;have e2:ds.drop i=ds[i]::ds.drop (i+1):=WB F;rw[e2] at a;unfold po at a;obtain⟨go,yl⟩:=io.1 i ds[i] X hd C wH;refine bC (T.item Y rfl rfl rfl y i aa s5 t X (λ_ _=>False) I5 (v f5) Tm go) λr s6 l=>?_
  obtain⟨u,hr,h6⟩:=l;subst hr;refine bC h6 λ_ s7 l=>?_
  obtain⟨x,H7,I7,r7,y7,U,f7⟩:=l;obtain⟨q,rp⟩:=yl x H7 y7;have rx:=rp hid S.tr w5;have I7':=I7.pinned (v f7) (T.obj _ _ U);cases e3:g ds[i] ρ0 with
  |none=>nofun
  |some ρ1=>
   rw[e3] at a;have a:(p ρ1).bind (λb=>if b=ζ then(A ρ1).bind λys=>(po g p A ρ0 (ds.drop (i+1))).map (ys++ ·) else po g p A ρ0 (ds.drop (i+1)))=p5 k:=a;obtain⟨tl1,tl2⟩:=hT _ _ _ e3;have fg: ∀ {f:St} {h:Hp},SR Y.K c hid ρ1 f h->SR Y.K c hid ρ0 f h:=λ{f h} z=>z.forget tl1 λj s e=>by
    by_cases hj:j<n0
    ·exact .inr ((tl2 j hj).trans e)
    ·exact .inl (hN j s (by nofun) e)
   have O: ∀j:Nat,Ow ρ0[j]? ->Ow ρ1[j]? :=λj o=>by
    by_cases hj:j<n0
    ·nofun
    ·exfalso;cases e:ρ0[j]? with
     |none=>rw[e] at o;exact o
     |some s=>have:=hN j s (by nofun) e;subst this;rw[e] at o;exact o
   have B: ∀ {f:St} {h:Hp} {s':Sc},Inv Y (aa++nR fp s7.heap) f h s'->tn (i+1) s'.heap/\ ∀b∈fp,h b=none:=λ{f h s'} J'=>by
    refine⟨T.keep _ _ _ U λb G o e=>(J'.pin (b,o) (Tj _ (Tj _ (eW G e)))).1,λb G=>?_⟩;obtain⟨o,e,_⟩:=T.obj _ _ U b G;exact(J'.pin (b,o) (Tj _ (Tj _ (eW G e)))).2.1
   refine bC (Ty▸hg hid ρ0 ds[i] _ s7 t H7 x u (λf h=>h=H7/\SR Y.K c hid ρ1 f H7/\OwK ρ0 ρ1 t f) I7' r7 ⟨S.ext q,rx,ρ1,e3,λf z o=>⟨rfl,z,o⟩⟩) λ_ s8 l=>?_
   obtain⟨N,H8,I8,e8,q8,o8⟩:=l;subst e8;have na1: ∀j:Nat,Ow ρ1[j]? ->N[j]? ≠p5 (p5 (.ref D0)):=λj o=>by
    rw[(o8 j o).2];exact na5 j (o8 j o).1
   cases e4:p ρ1 with
   |none=>nofun
   |some b=>
    rw[e4] at a;have a:(if b=ζ then(A ρ1).bind λys=>(po g p A ρ0 (ds.drop (i+1))).map (ys++ ·) else po g p A ρ0 (ds.drop (i+1)))=p5 k:=a;refine bC (Ty▸hp hid ρ1 _ s8 N H8 (λb' h=>b'=b/\ab H8 h) I8 ⟨q8,b,e4,λh s'=>⟨rfl,s'⟩⟩) λok s9 l=>?_
    obtain⟨H9,I9,e9,m⟩:=l;subst e9;have Z:ab (vw X hid) (vw H9 hid):=aH (q.trans m);cases ok with
    |false=>
     have a:po g p A ρ0 (ds.drop (i+1))=p5 k:=a;obtain⟨k1,k2⟩:=B I9;exact⟨ds.length- (i+1),by grind,i+1,xs,ad,N,H9,rfl,F,I9.unpinned,k1,k2,fg (q8.ext m),C.trans (q.trans m),m _ _ (q _ _ P),H.mono Z,w5.trans Z,v5.trans Z,λj o=>na1 j (O j o),k,a,M⟩
    |true=>
     have a:((A ρ1).bind λys=>(po g p A ρ0 (ds.drop (i+1))).map (ys++ ·))=p5 k:=a;cases e5:A ρ1 with
     |none=>rw[e5] at a;nofun
     |some zs=>
      rw[e5] at a;have a:(po g p A ρ0 (ds.drop (i+1))).map (zs++ ·)=p5 k:=a;cases e6:po g p A ρ0 (ds.drop (i+1)) with
      |none=>grind
      |some Q=>
       rw[e6] at a;cases a;have l1:=H.length;have l2:=congrArg Uk M;simp only[SG] at l2;refine hA ds[i] ρ1 e3 _ s9 N H9 xs ad zs _ I9 (q8.ext m) (m _ _ (q _ _ P)) (H.mono Z) (by grind) (C.trans (q.trans m)) (w5.trans Z) na1 e5 λs10 σ10 H10 xs' XL q10 a10 ST smL v10 na10=>?_
       obtain⟨k1,k2⟩:=B XL;exact⟨ds.length- (i+1),by grind,i+1,xs',ad++zs,σ10,H10,rfl,F,XL.unpinned,k1,k2,fg q10,smL,a10,ST,(w5.trans Z).trans v10,(v5.trans Z).trans v10,λj o=>na10 j (O j o),Q,e6,by nofun⟩
 ·have e:i=ds.length:=by lia
  subst e;rw[W3 (Sn _)] at a;cases a;rw[TZ] at M;subst M;refine bC (T.done Y rfl rfl rfl y ds.length aa s5 t X (λ_ _=>False) I5 (v f5) Tm (io.2 X C wH)) λr s6 l=>?_
  obtain⟨hr,I6⟩:=l;subst hr;exact hR s6 t X xs I6 S C P H v5 na5
end
def ym(f:FE):FA:=λρ=>(f ρ).map λd=>[d]
def G4(a:FA)(g:FG)(p:FT)(f:FE):FA:=λρ1=>(a ρ1).bind λds=>po g p (ym f) ρ1 ds
def mN(m:Nat)(b:FA)(d:FG)(g:FT)(a:FA)(c:FG)(e:FT)(f:FE):FE:=λρ=>(b ρ).bind λds=>(po d g (G4 a c e f) (ρ++SA m .no) ds).bind λys=>if ys.length<=SC then p5 (.lst ys) else ξ
theorem tR(h:mN m gi1 g1 p1 gi2 g2 p2 f ρ=p5 d): ∃ds ys,gi1 ρ=p5 ds/\po g1 p1 (G4 gi2 g2 p2 f) (ρ++SA m .no) ds=p5 ys/\ys.length<=SC/\d=.lst ys:=by
 unfold mN at h;cases e1:gi1 ρ with
 |none=>nofun
 |some ds=>
  rw[e1] at h;dsimp only[jbD] at h;cases e2:po g1 p1 (G4 gi2 g2 p2 f) (ρ++SA m .no) ds with
  |none=>nofun
  |some ys=>
   nofun
def yV(n:Nat)(g:FG):Prop:= ∀d (a ρ1:aC),g d a=p5 ρ1-> ∀i:Nat,n<=i->ρ1[i]? =a[i]?
def BF(n:Nat)(g:wX):Prop:= ∀d (a ρ1:aC),g d a=p5 ρ1-> ∀i:Nat,n<=i->ρ1[i]? =a[i]?
theorem DR {n i:Nat}(h:i<n):yV n (gN i):=λd a ρ1 e=>by
 cases e;exact λj b=>SD ⋯
theorem JL {n:Nat}:BF n kZ:=λd a ρ1 e=>by
 unfold kZ at e;lia
theorem yM {n:Nat}(c:yV n g)(f:BF n gs):BF n (gp g gs):=λd a ρ1 e=>by
 cases d with
 |nil=>cases e
 |cons d ds=>
  have e:(g d a).bind (λρ'=>gs ds ρ')=p5 ρ1:=e;cases e1:g d a with
  |none=>nofun
  |some ρ2=>
   rw[e1] at e;exact λi b=>(f ds ρ2 ρ1 e i b).trans (c d a ρ2 e1 i b)
theorem Qk {n m:Nat}(h:BF n gs):yV n (gT m gs):=λd a ρ1 e=>by
 unfold gT at e;split at e
 ·split at e
  ·exact h _ _ _ e
  nofun
 nofun
section
variable {t1 t2 i1 i2:Expr}{ifs1 ifs2:List Expr}
theorem Gr
 (b:Vo (model prog w) A (.compLoop (.ListComp elt [⟨t1,i1,ifs1,0⟩,⟨t2,i2,ifs2,0⟩] scope pos) 1 it acc env) R s)
 (h:Sy (model prog w) A (YA it) (λa s'=>Vo (model prog w) A (.compLoop (.ListComp elt [⟨t1,i1,ifs1,0⟩,⟨t2,i2,ifs2,0⟩] scope pos) 1 a acc env) R s')
   (notedBy (model prog w) A env λx s'=>R (.error x) s') s):
 Vo (model prog w) A (.compStart (.ListComp elt [⟨t1,i1,ifs1,0⟩,⟨t2,i2,ifs2,0⟩] scope pos) 1 it acc env) R s:=by
 refine XJ (show Sy _ _ ((compStart (.ListComp elt [⟨t1,i1,ifs1,0⟩,⟨t2,i2,ifs2,0⟩] scope pos) 1 it acc env).onRaise (λx=>do jbk x env;Yn theWindowsPlace)) _ _ s from wpAny_notedAt ?_);unfold compStart;show Sy _ _ (ask>>=_) _ _ s;refine R8 (Xr (wpAny_ite ?_));split
 ·first
   |exact R8 (Sa (Sa (jbn rfl b)))
   |exact Sa (jbn rfl b)
 ·first
   |exact R8 (Xo (R8 (UW (R8 (Tl h (λa s' h'=>Sa (jbn rfl h')) λ_ _ x=>x)))))
   |(refine R8 (Xo ?_);show Sy _ _ (Yn i2.pos>>=_) _ _ s;exact R8 (UW (R8 (Tl h (λa s' h'=>Sa (jbn rfl h')) λ_ _ x=>x))))
end
section
variable {Y:Cx}{c:Ct}{t1 i1 i2:Expr}{ifs1:List Expr}
theorem Gf(h:Y.xe=λ_ _=>False)(M:DP Y c .s elt f)(D:hid D0=ζ)(k:c.H₀ D0=ξ)(P:L D0=ξ):E9 Y c hid D0 L W (ym f) (AS Y.prog Y.w Y.A elt (.ref D0) Y.env) ρ1:=by
 intro R s σ H xs S zs Q I C ac G hz t T E p O;unfold ym at p;cases e5:f ρ1 with
 |none=>nofun
 |some y=>
  rw[e5] at p;cases p;unfold AS;refine bC (h▸M hid ρ1 _ s σ H (λv i=>ab H i/\Rep Y.K (vw i hid) v y) I ⟨C,y,e5,λv i s' r=>⟨s',r⟩⟩) λv B m=>?_
  obtain⟨z,d,n,N,a,g⟩:=m;have j:d D0=p5 (.lst xs):=a _ _ ac;refine bC (h▸eV (X:=Y) _ B σ d (.ref D0) [z] (.ref D0) [v] (λ_ i=>i=aV d D0 (.lst (xs++[z]))) n rfl (.cons N .nil) ⟨D0,xs,z,rfl,rfl,j,by simp at hz;lia,rfl⟩) λ_ l ⟨_,J,x,_,q⟩=>?_
  subst q;have F:vw (aV d D0 (.lst (xs++[z]))) hid=vw d hid:=cm D;have u:ab (vw H hid) (vw d hid):=aH a;refine O l σ _ (xs++[z]) x ((C.ext a).write D k E j) aA ?_ (λb o e=>?_) ?_ E
  ·rw[F];exact(G.mono u).append (.cons g .nil)
  ·rw[az (bV e P)];exact a _ _ (t _ _ e)
  nofun
theorem DD(e:Y.calm=ζ)(g:Y.xe=λ_ _=>False)(hT:iB n1 g2)(G:Qu n1 ρ1)(U:DIp Y c t2 i2 gi2)(R:wW Y c t2 g2)(S:w6 Y c ifs2 p2)(X:DP Y c .s elt f)(D:hid D0=ζ)(p:c.H₀ D0=ξ)(nD:L D0=ξ):
 E9 Y c hid D0 L W (G4 gi2 g2 p2 f) (wF Y.prog Y.w Y.A (.ListComp elt [⟨t1,i1,ifs1,0⟩,⟨t2,i2,ifs2,0⟩] scope pos) i2 (.ref D0) Y.env) ρ1:=by
 intro aa s σ H xs M zs Q I z ac C hz q wv Z i hQ;unfold G4 at i;cases e5:gi2 ρ1 with
 |none=>nofun
 |some ds=>
  rw[e5] at i;have i:po g2 p2 (ym f) ρ1 ds=p5 zs:=i;unfold wF;refine bC (g▸U hid ρ1 aa s σ H (λJ h=>ab H h/\rl Y.K (vw h hid) J ds) I ⟨z,ds,e5,λJ h B t=>⟨B,t⟩⟩) λv B E=>bC E λN s2 V=>?_
  obtain⟨it,fp,tn,J,H2,rfl,P,T,l,f2,k,t⟩:=V;have l1:=C.length
  have a:Vo (model Y.prog Y.w) Y.A (.compLoop (.ListComp elt [⟨t1,i1,ifs1,0⟩,⟨t2,i2,ifs2,0⟩] scope pos) 1 (.ref it) (.ref D0) Y.env) (λr s'=>match r with
   | .ok _=>Q s'
   | .error _=>False) s2:=by
   refine yb (L:=L) (W:=vw H2 hid) (ad0:=M) (xs0:=xs) (A:=ym f) (TA:=AS Y.prog Y.w Y.A elt (.ref D0) Y.env) e g hT R S (λd ρ2 _=>Gf g X D p nD) G P (z.ext k) D Z (k _ _ ac) (C.mono (aH k)) (q.trans k) (ab.refl _) T l f2 t.b (by nofun) i F4 ?_
   intro s' y h n F x j o u O m;exact hQ s' y h n F x o u j ((aH k).trans O) m
  exact Gr a (T.self Y.A 0 _ _ _ l a)
end
section
variable {X:Cx}{i1 i2:Expr}{scope:U8}{N':List Str}
theorem oJ(n:X.calm=ζ)(hk:scope.kind=.function)(hs:BC scope X.env.scope=ζ)(hn:BP X.N N' scope=ζ)(hm:N'.length-X.N.length=m)(hT1:iB X.N.length g1)(hU1:yV n1 g1)(hn1:X.N.length<=n1)(hT2:iB n1 g2)
 (O: ∀C g a l,∀x,TH i2 (aE X N' scope C g a l).env x=pure x)
 (hg1: ∀C g a l,wW (aE X N' scope C g a l) c t1 g1) (ST: ∀C g a l,w6 (aE X N' scope C g a l) c ifs1 p1) (hi2: ∀C g a l,DIp (aE X N' scope C g a l) c t2 i2 gi2)
 (hg2: ∀C g a l,wW (aE X N' scope C g a l) c t2 g2) (hp2: ∀C g a l,w6 (aE X N' scope C g a l) c ifs2 p2) (he: ∀C g a l,DP (aE X N' scope C g a l) c .s elt f) {s:Sc} {ds ys:List D} {RR:Sb->Addr->Y3->Sc->Prop}
 (I:Inv X aa σ H s) (Q:SR X.K c hid ρ σ H) (T:rb X.prog X.w X.K t1 J fp it tn) (st:tn 0 s.heap) (hF: ∀b∈fp,iT X aa H b) (io:NI X.K H (vw H hid) J ds) (hz:ys.length<=SC) (hc:po g1 p1 (G4 gi2 g2 p2 f) (ρ++SA m .no) ds=p5 ys)
 (hR: ∀(D C:Addr) (s':Sc) (v:Hp) (xs:List V),s.heap.objs.size<=D->s.heap.objs.size<=C->D≠C->H D=ξ->ab H v->v D=p5 (.lst xs)->Reps X.K (vw v (bI hid D)) xs ys->(∃m,s'.heap.Ns C m)->v C=ξ->s'.os=s.os->Xv s'.gens->HOk X.prog X.w v s'.heap->Un (frs X.stack) fp H v s.heap s'.heap->RR (.ref D) C (.ok .next) s'):
 Sy (model X.prog X.w) X.A (jaJ []) (λacc M=>Sy (model X.prog X.w) X.A (Yd scope X.env.globals (wY X.env.cells scope.names []) [] X.env.qual ξ .none (p5 X.env)) (λy Z=>
  Vo (model X.prog X.w) X.A (.compStart (.ListComp elt [⟨t1,i1,ifs1,0⟩,⟨t2,i2,ifs2,0⟩] scope pos) 0 (.ref it) acc {y with scope:=Xy scope X.env}) (RR acc y.locals) Z) E M) E s:=by
 refine TR (AU λt h r j=>?_);dsimp only at h r j⊢;generalize B:s.heap.push {cls:=.type "list",dict:=ξ,data:=.seq ([]:List Sb).toArray}=H2 at h r j⊢;have hC:H2.objs.size=s.heap.objs.size+1:=by rw[<-B,UJ]
 have p:H s.heap.objs.size=none:=I.hok.fresh (Sn _);have I2:Inv X aa σ (aV H s.heap.objs.size (.lst [])) {s with heap:=H2}:=by
  rw[<-B];exact I.laid (t':=s.toks) (λb o e=>Sd _ e) (Sn _) ⟨Uv _,[],0,.nil,Sj _ rfl⟩
 have S: ∀b∈fp,b<s.heap.objs.size:=λb k=>let⟨o,e,_⟩:=T.obj 0 s.heap st b k;Sw e
 have U: ∀b∈fp,iT X aa (aV H s.heap.objs.size (.lst [])) b:=λb k=>⟨by rw[az (SW (S b k))];exact(hF b k).1,(hF b k).2⟩
 have z: ∀b o,s.heap.get? b=p5 o->H2.get? b=p5 o:=λb o e=>by rw[<-B];exact Sd _ e
 have F:=xk (tk:=s.toks) (N':=N') (fp:=fp) I2 U (λb k=>let⟨o,e,_⟩:=T.obj 0 s.heap st b k;⟨o,z b o e⟩) hk hs hn h r j;rw[hm] at F;dsimp only at F;have sr0:SR X.K c (bI hid s.heap.objs.size) (ρ++SA m .no) (σ++SA m ξ) (aV H s.heap.objs.size (.lst [])):=(Q.hide (aM p _) p aA).more m;have hρ:ρ.length=X.N.length:=by rw[<-Q.len];exact I.len
 have nf:hid s.heap.objs.size=false:=Q.fresh p;have P:tn 0 t:=T.keep _ _ _ st λb k o e=>r b o (z b o e)
 have na0: ∀i:Nat,Ow (ρ++SA m Sl.no)[i]? ->(σ++SA m ξ)[i]? ≠p5 (p5 (V.ref s.heap.objs.size)):=(Q.more m).notOw nf
 have wv:ab (vw H hid) (vw (aV H s.heap.objs.size (.lst [])) (bI hid s.heap.objs.size)):=by rw[vE p];exact ab.refl _
 have R:Qu X.N.length (ρ++SA m Sl.no):=λi s hi e=>by
  grind[Ui]
 have u: ∀s4:Sc,s4={s with heap:=t,toks:=s.toks}->
  Vo (model X.prog X.w) X.A (.compLoop (.ListComp elt [⟨t1,i1,ifs1,0⟩,⟨t2,i2,ifs2,0⟩] scope pos) 0 (.ref it) (.ref s.heap.objs.size) (jaG scope (rF X.env.cells scope H2.objs.size) H2.objs.size X.env)) (RR (.ref s.heap.objs.size) H2.objs.size) s4:=by
  rintro s4 rfl;have fpY: ∀b∈fp,iT (aE X N' scope H2.objs.size {s with heap:=H2} (aV H s.heap.objs.size (.lst [])) fp) [] (aV H s.heap.objs.size (.lst [])) b:=λb k=>
   ⟨(U b k).1,(F.ok.exf b k).1,F.ok.exfs b k,.inl k,(F.ok.exf b k).2,λq hq=>by have hq':q∈([]:List (Addr×Obj))++[]:=hq;nofun⟩
  refine yb (Y:=aE X N' scope H2.objs.size {s with heap:=H2} (aV H s.heap.objs.size (.lst [])) fp) (L:=H) (hid:=bI hid s.heap.objs.size) (W:=vw H hid) (ad0:=[]) (xs0:=[]) (A:=G4 gi2 g2 p2 f) (TA:=wF X.prog X.w X.A (.ListComp elt [⟨t1,i1,ifs1,0⟩,⟨t2,i2,ifs2,0⟩] scope pos) i2 (.ref s.heap.objs.size) (jaG scope (rF X.env.cells scope H2.objs.size) H2.objs.size X.env))
   n rfl hT1 (hg1 _ _ _ _) (ST _ _ _ _) (λd ρ1 e=>DD (Y:=aE X N' scope H2.objs.size {s with heap:=H2} (aV H s.heap.objs.size (.lst [])) fp) n rfl hT2 (λi s hi e'=>?_) (hi2 _ _ _ _) (hg2 _ _ _ _) (hp2 _ _ _ _) (he _ _ _ _) cQ (Q.fresh0 p) p) R F sr0 cQ na0 aA .nil (aM p _) wv T P fpY io (by nofun) hc (CK (O H2.objs.size {s with heap:=H2} (aV H s.heap.objs.size (.lst [])) fp)) ?_
  ·rw[hU1 _ _ _ e i hi] at e';exact R i s (by omega) e'
  ·intro s' σ' v xs G _ sm' hx' rp' _ _;have Tm:Un (frs X.stack) fp H (aV H s.heap.objs.size (.lst [])) s.heap H2:=Un.laid (λb o e=>z b o e) (Sn _) p;exact hR s.heap.objs.size H2.objs.size s' v xs (Sn _) (by nofun) (by nofun) p sm' hx' rp' (let⟨m,hm,_⟩:=G.loc;⟨m,hm⟩) G.free G.os G.bare G.hok (Tm.trans G.base)
 exact Zb (u _ rfl) (T.self X.A 0 _ _ _ P (u _ rfl))
theorem l4(p:X.calm=ζ)(n1:Nat)(hT1:iB X.N.length g1)(XV:yV n1 g1)(U:iB n1 g2)(hi:Ks X c t1 i1 gi1)
 (XL: ∀C g a i,wW (aE X N' scope C g a i) c t1 g1) (R: ∀C g a i,w6 (aE X N' scope C g a i) c ifs1 p1) (ST: ∀C g a i,DIp (aE X N' scope C g a i) c t2 i2 gi2)
 (Tm: ∀C g a i,wW (aE X N' scope C g a i) c t2 g2) (Y: ∀C g a i,w6 (aE X N' scope C g a i) c ifs2 p2) (he: ∀C g a i,DP (aE X N' scope C g a i) c .s elt f)
 (hk:scope.kind=.function:=by rfl) (S:BC scope X.env.scope=true:=by kernel_rfl) (hn:BP X.N N' scope=true:=by kernel_rfl) (hm:N'.length-X.N.length=m:=by rfl) (hn1:X.N.length<=n1:=by exact Se rfl) (E: ∀x,TH i1 X.env x=pure x:=by intro _;rfl)
 (t: ∀C g a i,∀x,TH i2 (aE X N' scope C g a i).env x=pure x:=by intros;rfl):
 DP X c .n (.ListComp elt [⟨t1,i1,ifs1,0⟩,⟨t2,i2,ifs2,0⟩] scope pos) (mN m gi1 g1 p1 gi2 g2 p2 f):=by
 intro hid ρ aa s σ H Q I hq;obtain⟨sr,d,hd,q⟩:=hq;obtain⟨ds,ys,e1,hc,hz,rfl⟩:=tR hd;rw[eval_ListComp];refine VD (use:=ξ) rfl E (eB λx V=>I.ok.has x (g9 S x V)) hk (jO S) ?_
 refine bC (hi hid ρ aa s σ H (λJ j=>ab H j/\NI X.K j (vw j hid) J ds) I ⟨sr,ds,e1,λJ j s1 W=>⟨s1,W⟩⟩) λv s1 G=>bC G λitv s2 r=>?_
 obtain⟨it,fp,tn,J,H2,rfl,I2,T,Z,M,sm,W⟩:=r;refine oJ (RR:=λacc C=>jcC (model X.prog X.w) X.A X.xe ξ (EP X aa σ Q) acc C) p hk S hn hm hT1 XV hn1 U t XL R ST Tm Y he I2 (sr.ext sm) T Z M W hz hc ?_
 intro D C s' j xs hDge B hDC hD sm' V rp ⟨mm,P⟩ hC' hos l Ty h;refine⟨mm,P,λh' k=>⟨.ref D,j,?_,rfl,q _ j (sm.trans sm') ⟨D,xs,ys,rfl,rfl,sm.free hD,V,rp⟩⟩⟩;have y: ∀b o,s2.heap.get? b=p5 o->b≠C:=λb o e z=>by subst z;exact absurd (Sw e) (V1.mpr B)
 have L:Un (frs X.stack) fp H2 j s2.heap h':=⟨λb o e n G r=>(k.2 b (y b o e)).trans (h.keep b o e n G r),λb o e n G r=>let⟨sl,z⟩:=h.slot b o e n G r;⟨sl,(k.2 b (y b o e)).trans z⟩,h.free,λb o e r=>let⟨o',z⟩:=h.there b o e r;⟨o',(k.2 b (y b o e)).trans z⟩,h.tups,h.frzs,h.tbls⟩
 have F:HOk X.prog X.w j h':=λb o e=>by
  have nb: ∀b' o',j b'=p5 o'->b'≠C:=λb' o' e' z=>by nofun
  refine(Ty b o e).stay (λc' u hc' z=>(k.2 c' ?_).trans z) (λ_ z=>z) λ_ _ z=>z
  lia
 exact I2.call' (s':={s' with heap:=h'}) (ch:=fp) hos L F l λb O=>⟨(M b O).2.2.2.1,(M b O).2.1,(M b O).2.2.2.2.1,(M b O).2.2.2.2.2⟩
end
def sH(ds:List D)(a b:Option Int):List D:=(ds.drop (HT.sIx ds.length 0 a)).take (HT.sIx ds.length ds.length b-HT.sIx ds.length 0 a)
theorem FB {K:Sf}(r:Reps K F xs ds)(a b:Option Int):Reps K F (CY xs a b) (sH ds a b):=by
 unfold CY sH;rw[r.length];exact(r.drop _).take _
abbrev FO:=aC->Option (Option Int)
def RO(K:Sf)(c:Ct)(hid:bv)(f:FO)(ρ:aC):TO:=λσ H Q=>SR K c hid ρ σ H/\ ∃o,f ρ=p5 o/\ ∀a,ab H a->Q o a
def DO(X:Cx)(c:Ct)(e:Option Expr)(f:FO):Prop:= ∀hid ρ,PO X e (RO X.K c hid f ρ)
theorem PO.imp {X:Cx}(h:PO X e t)(i: ∀σ H Q,t' σ H Q->t σ H Q):PO X e t':=λa s σ H Q I q=>h a s σ H Q I (i σ H Q q)
section
variable {a b:Expr}{f:FE}{l u:FO}
def NP:FO:=λ_=>p5 ξ
def Nr(f:FE):FO:=λρ=>(f ρ).bind λd=>match d with
 | .int i=>p5 (p5 i)
 |_=>ξ
theorem vW:DO X c ξ NP:=λhid ρ=>PO.imp Jq λσ H Q ⟨a,o,e,q⟩=>by cases e;exact q H (ab.refl _)
theorem uZ(h:DP X c k e f):DO X c (p5 e) (Nr f):=λhid ρ=>PO.imp (JY (h hid ρ)) λσ H Q g=>by
 obtain⟨j,o,e,q⟩:=g;unfold Nr at e;cases e1:f ρ with
 |none=>nofun
 |some d=>
  rw[e1] at e;cases d with
  |int i=>
   cases e;refine⟨j,_,e1,λv l s r=>⟨i,?_,q l s⟩⟩;exact(RK.b k r λa n=>j.fresh n).int
  |_=>nofun
def xX(f:FE)(l u:FO):FE:=λρ=>(f ρ).bind λd=>match d with
 | .lst ds=>(l ρ).bind λb=>(u ρ).map λa=>.lst (sH ds b a)
 |_=>ξ
theorem zK(F:DP X c k e f)(B:DO X c r l)(A:DO X c o u):DP X c .n (.Subscript e (.Slice r o ξ p2) pos) (xX f l u):=λhid ρ=>
 PE.imp (Go Iv (F hid ρ) (B hid ρ) (A hid ρ)) λσ H Q s=>by
  obtain⟨h,d,g,q⟩:=s;unfold xX at g;cases e1:f ρ with
  |none=>nofun
  |some z=>
   rw[e1] at g;cases z with
   |lst ds=>
    have g:((l ρ).bind λr=>(u ρ).map λo=>D.lst (sH ds r o))=p5 d:=g;cases e2:l ρ with
    |none=>nofun
    |some x=>
     rw[e2] at g;cases e3:u ρ with
     |none=>nofun
     |some t=>
      rw[e3] at g;cases g;refine⟨h,_,e1,λv I i E=>⟨h.ext i,x,e2,λJ j=>⟨(h.ext i).ext j,t,e3,λG m=>?_⟩⟩⟩;obtain⟨a,xs,rfl,y,C⟩:=((RK.b k E λa n=>h.fresh n).ext (j.trans m)).lst;exact⟨a,xs,rfl,y,λp w=>q _ _ ((i.trans (j.trans m)).trans (aM w _)) (gL w (i.trans (j.trans m)) (FB C x t))⟩
   |_=>nofun
end
end
end Lake
namespace PySem
noncomputable section
open Sem (wp)
open AutoSeq1 (wpAny_loadPart')
section
variable {A:Tb}
theorem qh{us}(a:s.heap.IsTupleIter it t i)(k:s.heap.IsTuple t us)(f:us[i]? =p5 x)
 (j: ∀g,g.IsTupleIter it t (i+1)->S8 it s.heap g->Q x {s with heap:=g}):Sy (model prog w) A (Uq (.ref it)) Q E s:=by
 obtain⟨o,c,h,b⟩:=id a;obtain⟨m,d,_,l,e⟩:=k;unfold Uq;refine R8 (T6 (name:=Vx "__next__") a.typeIs Vm (Tx Vm a.typeIs X3 (show Sy _ _ (jcN (.ref it) 0>>=_) _ _ s from R8 (Vy c b (x:=.ref t) rfl ?_)) (XM _)));show Sy _ _ (if(SQ t==Te)=ζ then _ else _) _ _ s;rw[if_neg (show¬((SQ t==Te)=ζ) from UU)];refine(show Sy _ _ (jcN (.ref it) 1>>=_) _ _ s from R8 (Vy c b (x:=.int i 0) rfl (show Sy _ _ (seqItems? (.ref t)>>=_) _ _ s from R8 (X8 d e ?_))));simp only[U2,f];exact R8 (VT c b (by simp) (Sa ⟨x,rfl,Sa (j _ ⟨_,Ti _ c (UQ (UC b _)),(W5 ..).trans h,by rw[UC b];rfl⟩ (To ..))⟩))
theorem sf{us}(j:A.handled=ξ)(b:s.heap.IsTupleIter it t i)(k:s.heap.IsTuple t us)(n:us[i]? =ξ)
 (l: ∀g e,Ys it s.heap g->(∃o,g.get? e=p5 o/\o.cls=.type "StopIteration")->E (.ref e) {s with heap:=g}):Sy (model prog w) A (Uq (.ref it)) Q E s:=by
 obtain⟨o,h,q,c⟩:=id b;obtain⟨r,d,_,p,f⟩:=k;unfold Uq;refine R8 (T6 (name:=Vx "__next__") b.typeIs Vm (Tx Vm b.typeIs X3 (show Sy _ _ (jcN (.ref it) 0>>=_) _ _ s from R8 (Vy h c (x:=.ref t) rfl ?_)) (XM _)));show Sy _ _ (if(SQ t==Te)=ζ then _ else _) _ _ s;rw[if_neg (show¬((SQ t==Te)=ζ) from UU)];refine(show Sy _ _ (jcN (.ref it) 1>>=_) _ _ s from R8 (Vy h c (x:=.int i 0) rfl (show Sy _ _ (seqItems? (.ref t)>>=_) _ _ s from R8 (X8 d f ?_))));simp only[U2,n];refine R8 (Xo (R8 (VT h c (by grind) (show Sy _ _ (jcO (.type "StopIteration") []>>=_) _ _ _ from R8 ?_))));simp only[jcO,jcP];refine R8 (TR ?_ (by size_fits));refine R8 (m:=ZI _ _) (Yr (a:=Te) (by rfl) (TR ?_ (by size_fits)));simp only[raiseNew];refine R8 (Z4 ?_)
 first|rw[show A.in1.handled=none from j]|rw[j]
 exact R8 (Sa (jbG (l _ _ (((To ..).extBut.push _).push _) ⟨_,Sj _ rfl,rfl⟩)))
theorem vo{x old:Sb}{N:Heap->Prop}(R:XN s.heap e it i old)(q:e≠it)(O: ∀g g',N g->(∀o,g.get? it=p5 o->g'.get? it=p5 o)->N g')
 (nx: ∀(Y:Tb) (W:Sb->Sc->Prop) (E':Sb->Sc->Prop),(∀g,N g->S8 it s.heap g->W x {s with heap:=g})->Sy (model prog w) Y (Uq (.ref it)) W E' s)
 (Z: ∀g,IsEnumOut g e it ((i:Int)+1) x s.heap.objs.size->N g->g.get? s.heap.objs.size=p5 {cls:=.type "tuple",data:=.seq #[.int i s.toks,x]}->g.objs.size=s.heap.objs.size+1->
   (∀b o,b≠e->b≠it->s.heap.get? b=p5 o->g.get? b=p5 o)->Q (p5 (.ref s.heap.objs.size)) {s with heap:=g,toks:=s.toks+1}):Sy (model prog w) A (VX (.ref e)) Q E s:=by
 have X:s.TypeIs (.ref e) "enumerate":=⟨_,R,rfl⟩
 unfold VX;refine R8 (WJ (T6 (name:=Vx "__next__") X Wg (Tx Wg X Ze ?_ (YT _))));obtain⟨D,J,L,tk,os⟩:=s;refine(show Sy _ _ (jcN (.ref e) 2>>=_) _ _ _ from R8 (Vy R rfl (x:=.ref it) rfl (R8 (nx _ _ _ λc P k=>?_))));replace k:S8 it D c:=k;have C:XN c e it i old:=(k.2 e q).trans R;refine(show Sy _ _ (jcN (.ref e) 3>>=_) _ _ ⟨c,J,L,tk,os⟩ from R8 (Vy C rfl (x:=VY i) rfl ?_));refine(show Sy _ _ (jcN (.ref e) 4>>=_) _ _ ⟨c,J,L,tk,os⟩ from R8 (Vy C rfl (x:=.none) rfl ?_));refine(show Sy _ _ (mkInt i>>=_) _ _ ⟨c,J,L,tk,os⟩ from R8 (wpAny_mkInt ?_));refine(show Sy _ _ (jcQ (.ref e) 3 (VY ((i:Int)+1))>>=_) _ _ ⟨c,J,L,tk+1,os⟩ from R8 (V4 C (by simp) λp y j=>?_));replace j:S8 e c p:=j;replace y:XN p e it ((i:Int)+1) old:=y;refine(show Sy _ _ (jcQ (.ref e) 4 .none>>=_) _ _ ⟨p,J,L,tk+1,os⟩ from R8 (V4 y (by grind) λa z l=>?_));replace l:S8 e p a:=l;replace z:XN a e it ((i:Int)+1) old:=z;refine(show Sy _ _ (jcP [.int i tk,x]>>=_) _ _ ⟨a,J,L,tk+1,os⟩ from R8 (wpAny_newTuple ?_));have H:a.objs.size=D.objs.size:=by rw[l.1,j.1,k.1]
 have T:e<D.objs.size:=Sw R;have n:XN (a.push {cls:=.type "tuple",data:=.seq #[.int i tk,x]}) e it ((i:Int)+1) old:=Sd _ z;have G:N (a.push {cls:=.type "tuple",data:=.seq #[.int i tk,x]}):=O _ _ P λo S=>Sd _ (l.extBut _ _ (S9 q) (j.extBut _ _ (S9 q) S))
 have I:(a.push {cls:=.type "tuple",data:=.seq #[.int i tk,x]}).get? D.objs.size=p5 {cls:=.type "tuple",data:=.seq #[.int i tk,x]}:=by rw[<-H];exact Sj _ rfl
 have K:(a.push {cls:=.type "tuple",data:=.seq #[.int i tk,x]}).objs.size=D.objs.size+1:=by nofun
 have F: ∀b o,b≠e->b≠it->D.get? b=p5 o->(a.push {cls:=.type "tuple",data:=.seq #[.int i tk,x]}).get? b=p5 o:=λb o M V U=>Sd _ (l.extBut b o M (j.extBut b o M (k.extBut b o V U)))
 generalize a.push {cls:=.type "tuple",data:=.seq #[.int i tk,x]}=g₄ at n G I K F;rw[H];refine(show Sy _ _ (WL (.ref e)>>=_) _ _ ⟨g₄,J,L,tk+1,os⟩ from R8 ?_);unfold WL;refine R8 (Vy n rfl (x:=.none) rfl (Sa ?_));simp only[if_true];refine R8 (Xo (R8 (Vy n rfl (x:=old) rfl (R8 (V4 n (by simp) λm r f=>?_)))));replace f:S8 e g₄ m:=f;replace r:XN m e it ((i:Int)+1) x:=r;refine(show Sy _ _ (WE (.ref e) (.ref D.objs.size)>>=_) _ _ ⟨m,J,L,tk+1,os⟩ from R8 ?_);unfold WE;refine R8 (V4 r (by simp) λv t h=>?_);replace h:S8 e m v:=h;replace t:IsEnumOut v e it ((i:Int)+1) x D.objs.size:=t;refine V4 t (by simp) λu B d=>?_
 replace d:S8 e v u:=d;replace B:IsEnumOut u e it ((i:Int)+1) x D.objs.size:=B;refine R8 (wpAny_letGo (Sa ⟨_,rfl,Sa (Z u B (O _ _ G λo S=>?_) ?_ ?_ λb o M V U=>?_)⟩))
 ·exact d.extBut _ _ (S9 q) (h.extBut _ _ (S9 q) (f.extBut _ _ (S9 q) S))
 ·exact d.extBut _ _ (Uc T) (h.extBut _ _ (Uc T) (f.extBut _ _ (Uc T) I))
 ·rw[d.1,h.1,f.1,K]
 ·exact d.extBut b o M (h.extBut b o M (f.extBut b o M (F b o M V U)))
theorem xj(d:XN s.heap e it i old)
 (nx: ∀(f:Tb),f.handled=A.handled-> ∀(j:Sb->Sc->Prop) (a:Sb->Sc->Prop),(∀g x,Ys it s.heap g->(∃o,g.get? x=p5 o/\o.cls=.type "StopIteration")->a (.ref x) {s with heap:=g})->Sy (model prog w) f (Uq (.ref it)) j a s)
 (l: ∀g,Ys it s.heap g->Q ξ {s with heap:=g}):Sy (model prog w) A (VX (.ref e)) Q E s:=by
 have c:s.TypeIs (.ref e) "enumerate":=⟨_,d,rfl⟩
 unfold VX;refine R8 (WJ (T6 (name:=Vx "__next__") c Wg (Tx Wg c Ze (show Sy _ _ (jcN (.ref e) 2>>=_) _ _ _ from R8 (Vy d rfl (x:=.ref it) rfl (R8 (nx A.in1 rfl _ _ λg x k m=>?_)))) (YT _))));obtain⟨o,h,n⟩:=m;exact R8 (Vf (T:="StopIteration") (b:=ζ) ⟨o,h,n⟩ ZJ (Sa (l _ k)))
end
set_option maxHeartbeats 1000000 in
theorem vq(l:Addr)(us:Array Sb)(n:Nat)(dct:Option Addr)(i:Array (Option Sb)):
 Meets (Ux.«enumerate.__new__» ⟨[.type "enumerate",.ref l],[]⟩) (λ_ R s=>s.heap.get? l=p5 {cls:=.type "tuple",dict:=dct,data:=.seq us n,slots:=i}/\
  R (.ok (.ret (.ref (s.heap.push {cls:=.type "tuple_iterator",data:=.fields #[.ref l,.int 0 0]}).objs.size)))
   {s with heap:=(s.heap.push {cls:=.type "tuple_iterator",data:=.fields #[.ref l,.int 0 0]}).push {cls:=.type "enumerate",data:=.fields #[.none,.bool θ,.ref s.heap.objs.size,VY 0,.none,.none]}}):=
 .of_wp λprog w A R s h=>by
  obtain⟨f,g,d,tk,os⟩:=s;obtain⟨a,h⟩:=h;have e:=sub_enumerate;have b:Heap.IsTuple (Shared.heap ⟨f,g,d,tk,os⟩) l us:=⟨_,a,rfl,n,rfl⟩
  wp_walk using T1 a
  refine wpAny_stack_any λst=>Sa ?_
  split
  ·rename_i c _ _ _ _ _
   cases (c==jaa "enumerate")
   ·wp_walk using T1 a,WS b
    exact⟨_,rfl,h⟩
   ·wp_walk using T1 a,WS b
    exact⟨_,rfl,h⟩
  ·wp_walk using T1 a,WS b
   exact⟨_,rfl,h⟩
section
theorem sj(f:s.heap.IsTuple l us)
 (h: ∀g,XN g (s.heap.objs.size+1) s.heap.objs.size 0 .none->g.IsTupleIter s.heap.objs.size l 0->g.objs.size=s.heap.objs.size+2->(∀b o,s.heap.get? b=p5 o->g.get? b=p5 o)->Q (.ref (s.heap.objs.size+1)) {s with heap:=g}):
 Sy (model prog w) A (call (.type "enumerate") [.ref l]) Q E s:=by
 obtain⟨⟨cls,dct,c,i⟩,j,d,n,a⟩:=f;have d:cls=.type "tuple":=d;have a:c=.seq us n:=a;subst d a;refine callType_new jae (by rfl) (Zf _) (Zv _) (λobj=>ZK obj _) Zw (vq l us n dct i) ⟨j,?_⟩;have hz:(s.heap.push {cls:=.type "tuple_iterator",data:=.fields #[.ref l,.int 0 0]}).objs.size=s.heap.objs.size+1:=UJ ..;show _/\_;rw[hz];have e:XN ((s.heap.push {cls:=.type "tuple_iterator",data:=.fields #[.ref l,.int 0 0]}).push {cls:=.type "enumerate",data:=.fields #[.none,.bool θ,.ref s.heap.objs.size,VY 0,.none,.none]}) (s.heap.objs.size+1) s.heap.objs.size 0 .none:=by
  have:=Sj (s.heap.push {cls:=.type "tuple_iterator",data:=.fields #[.ref l,.int 0 0]}) (o:={cls:=.type "enumerate",data:=.fields #[.none,.bool θ,.ref s.heap.objs.size,VY 0,.none,.none]}) rfl;rw[hz] at this;omega
 exact⟨⟨_,e,rfl⟩,h _ e ⟨_,Sd _ (Sj _ rfl),rfl,rfl⟩ (by simp) λb o x=>Sd _ (Sd _ x)⟩
end
end
end PySem
namespace Lake
noncomputable section
open PySem PySem.Spec PyProof.Rows
def RF(K:Sf)(a:Addr):It:=
 ⟨λi H=> ∃xs x,SqT K H a xs/\xs[i]? =p5 x,λi H x b=> ∃T,x=.ref T/\H T=ξ/\ ∀xs,SqT K H a xs-> ∃y,xs[i]? =p5 y/\b=aV H T (.tup [.int i,y]),λi H=> ∃xs,SqT K H a xs/\xs.length<=i⟩
theorem zy{K:Sf}{x1}(a it e:Addr)(t:e≠it):rb P w K (.Tuple es x1 pos) (RF K a) [e,it] e (λi h=>(∃old,XN h e it i old)/\h.IsTupleIter it a i) where
 mem:=by simp
 obj:=λi h st b d=>by
  obtain⟨⟨old,f⟩,o,ho,S,hd⟩:=st;rcases SU.mp d with rfl|d
  ·exact⟨_,f,λv z=>by nofun⟩
  nofun
 keep:=λi h h' st k=>by
  obtain⟨⟨old,f⟩,c⟩:=st;exact⟨⟨old,k e (by simp) _ f⟩,c.at λo x=>k it (by simp) o x⟩
 item:=by
  intro X hP hw W S i J s σ H E I O st hg;subst hP hw W;obtain⟨xs,x,L,T⟩:=hg;obtain⟨B,rv,p,hz⟩:=I.tuple L;obtain⟨u,hu,ru⟩:=rv.get T;obtain⟨⟨old,f⟩,c⟩:=st;obtain⟨e0,e1,e2,e3,e4,e5⟩:=O e (by simp);obtain⟨M,f1,f2,Y,U,V⟩:=O it (by simp);have ht:s.heap.IsTuple a B.toArray:=p;refine vo (x:=u) (N:=λg=>g.IsTupleIter it a (i+1)) f t (λg g' n k=>n.at k) (λA' Q' E' A=>qh c ht (by simpa using hu) λg n b=>A g n b) λg D m hT hsz hk=>⟨_,rfl,?_⟩
  refine Ye D λg' he' j=>?_
  have r:e<s.heap.objs.size:=Sw f;have k2: ∀b o,b≠e->b≠it->s.heap.get? b=p5 o->g'.get? b=p5 o:=λb o h1 h2 h3=>(j.2 b h1).trans (hk b o h1 h2 h3)
  have hT':g'.get? s.heap.objs.size=p5 {cls:=.type "tuple",data:=.seq #[.int i s.toks,u]}:=(j.2 _ (Uc r)).trans hT;have hn:H s.heap.objs.size=none:=I.hok.fresh (Sn _);have R:Inv X J σ (aV H s.heap.objs.size (.tup [.int i,x])) {s with heap:=g',toks:=s.toks+1}:=by
   obtain⟨G,hoi,hci,Z⟩:=id (show g'.IsTupleIter it a (i+1) from m.at λo y=>(j.2 it (S9 t)).trans y);obtain⟨os0,l,_⟩:=id c;have ilt:it<s.heap.objs.size:=Sw l;have I0:Inv X J σ (aV H s.heap.objs.size (.tup [.int i,x])) {s with heap:=s.heap.push {cls:=.type "tuple",data:=.seq #[.int i s.toks,u]},toks:=s.toks+1}:=
    I.laid (t':=s.toks+1) (λb o q=>Sd _ q) (Sn _) (show b6 X.prog X.w _ _ _ (.tup [.int i,x]) from
     ⟨UV (fT (by simp)),[.int i s.toks,u],.cons ⟨_,rfl⟩ (.cons ru .nil),⟨_,Sj _ rfl,rfl,_,rfl⟩,_,Sj _ rfl,rfl⟩)
   have u1:((s.heap.push {cls:=.type "tuple",data:=.seq #[.int i s.toks,u]}).update it λ_=>G).get? it=p5 G:=Ti (λ_=>G) (Sd _ l) (UQ Z);have R:Inv X J σ (aV H s.heap.objs.size (.tup [.int i,x])) {s with heap:=(s.heap.push {cls:=.type "tuple",data:=.seq #[.int i s.toks,u]}).update it λ_=>G,toks:=s.toks+1}:=
    I0.turned (t':=s.toks+1) (λb o d q=>(Um _ _ (S9 d)).trans q) (by rw[az (SW ilt)];exact M) f1 Y U V
   refine R.turned (t':=s.toks+1) (λb o d q=>?_) (by rw[az (SW r)];exact e0) e1 e3 e4 e5
   by_cases C:b=it
   ·nofun
   ·have Q:((s.heap.push {cls:=.type "tuple",data:=.seq #[.int i s.toks,u]}).update it λ_=>G).get? b=p5 o:=q;rw[Um _ _ (S9 C)] at Q
    by_cases F:b=s.heap.objs.size
    ·subst F;rw[Sj _ rfl] at Q;nofun
    ·rw[Yt _ _ _ F] at Q;exact k2 b o d C Q
  refine⟨.ref s.heap.objs.size,aV H s.heap.objs.size (.tup [.int i,x]),R,rfl,⟨_,rfl,hn,λys hy=>⟨x,by rw[I.tuple_inj hy L];exact T,rfl⟩⟩,⟨⟨u,by simpa using he'⟩,m.at λo y=>(j.2 it (S9 t)).trans y⟩,λb d=>?_⟩;rcases SU.mp d with rfl|d
  ·rw[az (SW r)];exact e0
  ·have:b=it:=by simpa using d
   subst this;obtain⟨o,ho,_⟩:=c;rw[az (SW (Sw ho))];exact M
 done:=by
  intro X hP hw W S i J s σ H E I O st hg;subst hP hw W;obtain⟨xs,L,T⟩:=hg;obtain⟨B,rv,p,hz⟩:=I.tuple L;obtain⟨⟨old,f⟩,c⟩:=st;obtain⟨M,f1,f2,Y,U,V⟩:=O it (by simp);have hl:=rv.length;have hh:=I.ok.hd S;refine xj f (λA' hA' Q' E' A=>sf (hA'.trans hh) c (show s.heap.IsTuple a B.toArray from p) (by simp;nofun) A) λg k=>⟨rfl,I.turned (t':=s.toks) (λb o d z=>k b o d z) M f1 Y U V⟩
 self:=λ_ _ _ _ _ st h=>let⟨⟨_,f⟩,_⟩:=st;W6 f h
section
variable {X:Cx}{p:Pos}
def mK(ds:List D):List D:=(R9 ds.length).map λ(i:Nat)=>D.tup [.int i,ds.getD i .non]
def NX(f:FE):FA:=λρ=>(f ρ).bind λd=>match d with
 | .tup ds=>p5 (mK ds)
 |_=>ξ
theorem Dn {K:Sf}(b:SqT K W a xs)(c:Reps K W xs ds):rl K W (RF K a) (mK ds):=by
 have l:=c.length;have m:(mK ds).length=ds.length:=by simp[mK]
 refine⟨λi d H e s=>?_,λH s=>⟨_,ab.seqT s b,by nofun⟩⟩;have x:i<ds.length:=by rw[<-m];exact(Sz.mp e).1
 have j:xs[i]? =p5 xs[i]:=Su (by nofun);refine⟨⟨_,xs[i],ab.seqT s b,j⟩,λy v ⟨T,t,f,q⟩=>?_⟩;subst t;obtain⟨z,k,n⟩:=q _ (ab.seqT s b);subst n;refine⟨aM f _,λhid h g=>?_⟩;have r:hid T=false:=by
  cases eh:hid T with
  |false=>rfl
  |true=>obtain⟨o,A⟩:=h T eh;nofun
 obtain⟨d',w,u⟩:=c.get' k;have p:d=.tup [.int i,d']:=by
  unfold mK at e;nofun
 rw[p];exact h9 f r (.cons .int (.cons (u.mono g) .nil))
theorem HA {a:Expr}(h:DP X c .s a f)(J:X.mg "enumerate"=ξ)(L:Gl X "enumerate":=by rfl)(t:Sv [a] X.env=[(θ,eval a X.env)]:=by rfl):DIp X c (.Tuple es x1 tp) (.Call (.Name "enumerate" p) [a] [] pos) (NX f):=by
 intro hid ρ C s σ H R I D;obtain⟨F,ds,n,q⟩:=D;unfold NX at n;cases e1:f ρ with
 |none=>nofun
 |some z=>
  rw[e1] at n;cases z with
  |tup us=>
   cases n;refine Call_ (jy (u:=.type "enumerate") I L J (by rfl) (UF (bC (bn (h hid ρ) bX t pos C s σ H (λvs l=> ∃v,vs=[v]/\ab H l/\Rep X.K (vw l hid) v (.tup us)) I ⟨F,_,e1,λv l s' r=>⟨v,rfl,s',r⟩⟩) λvs i ⟨Q,y,d,M,w,e,s',r⟩=>?_) t rfl));subst e;cases M with
   |cons G E=>
    cases E;cases r with
    |tup A N=>
     cases G;obtain⟨m,P,B,hz⟩:=d.tuple (SqT.of (cu _ _ _ _ A));refine sj (show i.heap.IsTuple _ m.toArray from B) λg x j hsz O=>?_
     refine W6 x ⟨_,[i.heap.objs.size+1,i.heap.objs.size],_,_,y,rfl,d.kept (t':=i.toks) λb o e=>O b o e,zy _ _ _ (Uc (Wt _)),⟨⟨_,x⟩,j⟩,λb k=>?_,q _ y s' (Dn (SqT.of A) N)⟩;rcases SU.mp k with rfl|k
     ·exact d.fpOk (XB _) (d.hok.fresh (XB _))
     ·have:b=i.heap.objs.size:=by simpa using k
      subst this;exact d.fpOk (Sn _) (d.hok.fresh (Sn _))
  |_=>nofun
end
open PySem PySem.W PySem.Calls PyProof.Rows
def uW(i:Nat)(g:FE):GE:=λρ=>match g ρ with
 |some (.lst zs)=>(match gm i ρ with
  |some bs=>if bs.length+zs.length<=SC then p5 (.non,fO i (bs++zs) ρ) else ξ
  |none=>ξ)
 |_=>ξ
theorem C9{ρ ρ':aC}{d:D}(h:uW i g ρ=p5 (d,ρ')): ∃zs bs,g ρ=p5 (.lst zs)/\gm i ρ=p5 bs/\bs.length+zs.length<=SC/\d=.non/\ρ'=fO i (bs++zs) ρ:=by
 unfold uW at h;split at h
 ·split at h
  ·nofun
  nofun
 nofun
section
variable {X:Cx}{apos pos:Pos}
theorem JC(i:Nat)(Y:DP X c .n e g)
 (M:X.N[i]? =p5 y:=by rfl) (hv:oe X.env.scope y:=by first|exact TJ rfl|exact Ta (TJ rfl)|exact Ta (Ta rfl)) (W:(y==("__debug__":Str))=false:=by decide) (B:(y==("__classdict__":Str))=false:=by decide)
 (h:Ve (.Name y py) "extend" X.env (eval (.Name y py) X.env)=eval (.Name y py) X.env:=by rfl)
 (k:((Ue pos (Sv [e] X.env)).all (λx=> !x.1)&&(XA pos (VW [] X.env)).all (λx=>x.1.isSome)
   &&χ ([e].length+([]:List Vv).length+(if([]:List Vv).isEmpty then 0 else 1)<30))=true:=by rfl)
 (j:(apos.endLine==pos.line)=true:=by rfl) (E:Sv [e] X.env=(θ,eval e X.env)::Sv [] X.env:=by rfl) (f:(Ue pos (Sv [] X.env)).any (·.1)=false:=by rfl):
 DE X c .s (.Call (.Attribute (.Name y py) "extend" apos) [e] [] pos) (uW i g):=λhid ρ=>
 PE.imp (yA WW PySem.F.slot_list_extend PySem.F.type_list_extend Da (pv i M hv W B) (bn (Y hid ρ) bX E) h k j E f) λσ H Q C=>by
  obtain⟨u,d,ρ',A,q⟩:=C;obtain⟨zs,bs,T,L,Z,rfl,rfl⟩:=C9 A;obtain⟨a,xs0,I,G,S,U,a5⟩:=u.held L;refine⟨.ref a,I,.inl ⟨rfl,_,SqL.of G⟩,u,_,T,λv t r V=>?_⟩;obtain⟨l,D,R,z,rfl,n1,P,n3⟩:=V;cases z;have p:Reps X.K (vw t hid) D zs:=n3.mono (ft λb w=>cB w);have m:Reps X.K (vw t hid) xs0 bs:=U.mono (aH r);refine⟨a,l,xs0,D,rfl,rfl,r _ _ G,P,by rw[m.length,p.length];exact Z,?_⟩;have O:vw (aV t a (.lst (xs0++D))) hid=vw t hid:=cm S;refine q .non _ ⟨λb o z J=>?_,(u.ext r).put L I (λb o z J=>by rw[az J];exact z) aA (by rw[O];exact m.append p),.non⟩;rw[az (λe=>by nofun)];exact r _ _ z
end
def MA {α:Type}(d:α)(n:Nat):Option α:=if n<=SC then p5 d else ξ
def Rs {α:Type}(d:α)(n:Nat):Option α:=if n<SC then p5 d else ξ
theorem jT {α:Type}{d:α}{n:Nat}(h:n<=1000):MA d n=p5 d:=if_pos (UV (fT h))
theorem t9 {α:Type}{d:α}{n:Nat}(h:n<=1000):Rs d n=p5 d:=if_pos (fT h)
theorem KO(a:FA)(ρ:aC):dz a ρ=(a ρ).bind λds=>MA (.tup ds) ds.length:=rfl
theorem Cm(a:FA)(ρ:aC):bZ a ρ=(a ρ).bind λds=>MA (.lst ds) ds.length:=rfl
theorem EN(m:Nat)(a:FA)(g:FG)(p:FT)(f:FE)(ρ:aC):bm m a g p f ρ=(a ρ).bind λds=>(MA Unit.unit ds.length).bind λ_=>(cY g p f (ρ++SA m .no) ds).map D.lst:=by
 grind[bm,MA]
theorem Ch(bs:List D)(d:D):oY bs [d]=Rs (.non,bs++[d]) bs.length:=rfl
theorem IE(bs:List D)(i:Int):sJ bs [.int i]=(MA Unit.unit bs.length).bind λ_=>(vO bs.length i).bind λj=>(bs[j]?).map λd=>(d,bs.eraseIdx j):=by
 grind[sJ,MA]
def OB(ds:List D):Option (List D):=match ds with
 | [.int j]=>if j.natAbs<4000000000 then p5 (C7 0 j.toNat) else ξ
 |_=>ξ
theorem yf(f:FA)(ρ:aC):cC f ρ=(f ρ).bind OB:=rfl
theorem yj {j:Int}(h:j.natAbs<=1000):OB [.int j]=p5 (C7 0 j.toNat):=by
 show(if j.natAbs<4000000000 then p5 (C7 0 j.toNat) else ξ)=_;lia
theorem fZ(i j:Int):cr (.int i) (.int j)=p5 (.int (i+j)):=rfl
theorem lY(i j:Int):fw (.int i) (.int j)=p5 (.int (i-j)):=rfl
theorem pG(i j:Int):o7 (.int i) (.int j)=p5 (.bl (χ (i<j))):=rfl
theorem Kb(i j:Int):OI (.int i) (.int j)=p5 (.bl (χ (i<=j))):=rfl
theorem JF(i j:Int):NJ (.int i) (.int j)=p5 (.bl (χ (j<i))):=rfl
theorem BT(i j:Int):Re (.int i) (.int j)=p5 (.bl (χ (j<=i))):=rfl
theorem ce(h:0<j):bo (.int i) (.int j)=p5 (.int (i % j)):=by
 simp_all[bo,i2]
theorem fu {i j:Int}(a:i.natAbs<10^200)(b:j.natAbs<10^200):fB (.int i) (.int j)=p5 (.int (i*j)):=by
 unfold fB i2;lia
theorem uA {i j:Int}(a:0<j)(b:j.natAbs<10^200):mt (.int i) (.int j)=p5 (.int (i / j)):=by
 unfold mt i2;lia
theorem l9 {i j:Int}(a:0<=j)(b:j<=1000000)(c:i.natAbs<2^64):fM (.int i) (.int j)=p5 (.int (i^j.toNat)):=by
 simp_all[fM,i2]
theorem gM(h:d5 x<=32)(g:d5 y<=32:=by first|assumption|simp[d5,bJ]):wS x y=some (.bl (gV x y)):=if_pos ⟨h,g⟩
theorem nK(h:d5 x<=32)(g:d5 y<=32:=by first|assumption|simp[d5,bJ]):oZ x y=some (.bl (!gV x y)):=if_pos ⟨h,g⟩
theorem gv(i j:Int):gV (.int i) (.int j)=χ (i=j):=by
 rfl
theorem df(i:Int):d5 (.int i)=0:=by rfl
structure Bag(N:Nat)(a b:Int):Prop where
 a0:0<=a
 a1:a.natAbs<10^180
 b0:0<=b
 b1:b<=N
 lo:b≠0->a.natAbs<2147483647
abbrev bc(a b:Int):List D:=[.int a,.int b]
def wK:FS:=
 aF (fL (bO (ar o7 (ah 1) (am cR (ae (ah 0) (ai))))) (bH (ar aY (ah 0) (ah 1))) (dc))
 (bH (aD (.int 0)))
def gI:List D->Option D:=bP .s 2 wK
def Fi:FS:=
 aF (bp 2 (ar bo (am zf (ae (am (nF 2 gI) (ae (ah 0) (ae (ah 1) (ai)))) (ai))) (ar fB (ar fB (ar fM (aD (.int 10)) (aD (.int 60))) (ar fM (aD (.int 10)) (aD (.int 60)))) (ar fM (aD (.int 10)) (aD (.int 60))))))
 (aF (fL (bO (ar Re (ah 2) (ar fM (aD (.int 10)) (aD (.int 18))))) (bH (bZ (ae (ah 2) (ae (aD (.int 0)) (ai))))) (dc))
 (aF (bp 3 (ar bo (ar cr (ar cr (ah 2) (ar fB (aD (.int 7919)) (ah 1))) (aD (.int 17))) (aD (.int 2147483647))))
 (aF (eL (cV (cC (ae (am tM (ae (am cR (ae (ah 0) (ai))) (ae (aD (.int 9)) (ai)))) (ai)))) (gN 4) (bp 3 (ar bo (ar cr (ar cr (ar fM (ah 3) (aD (.int 5))) (ar bo (ar aY (ah 0) (ah 4)) (aD (.int 2147483629)))) (ar fB (aD (.int 31)) (ah 4))) (aD (.int 2147483647)))))
 (bH (bZ (ae (ah 3) (ae (aD (.int 1)) (ai))))))))
def Hb:List D->Option D:=bP .n 5 Fi
def wb:FS:=
 aF (fL (bO (ar wS (ar aY (dZ 0) (aD (.int 1))) (aD (.int 0)))) (aF (bp 2 (ar bo (ar aY (dZ 0) (aD (.int 0))) (ah 1)))
 (aF (eK (cI 0 (aD (.int 0))) (pu (ar mt (ar aY (dZ 0) (aD (.int 0))) (ah 1))))
 (bH (ah 2)))) (dc))
 (aF (eK (cI 0 (aD (.int 0))) (pu (ar bo (ar cr (ar cr (ar fM (ar aY (dZ 0) (aD (.int 0))) (aD (.int 5))) (ar fB (aD (.int 48271)) (ar aY (dZ 0) (aD (.int 1))))) (aD (.int 11))) (aD (.int 2147483647)))))
 (aF (eK (cI 0 (aD (.int 1))) (pu (ar cr (ar aY (dZ 0) (aD (.int 1))) (aD (.int 1)))))
 (bH (ar bo (ar mt (ar bo (ar fB (ar aY (dZ 0) (aD (.int 0))) (aD (.int 69621))) (aD (.int 2147483629))) (aD (.int 8))) (ah 1)))))
def dE:List D->List D->Option (D×List D):=yP .s 3 wb
def xA:FS:=
 aF (dW 2 (HD (ah 1)))
 (aF (dW 3 (bZ (ai)))
 (aF (rD (bO (ar oZ (dZ 2) (bZ (ai)))) (dB (a9 3 1 oY (iO (a9 2 1 sJ (iO (a9 0 1 dE (cV (ae (am cR (ae (dZ 2) (ai))) (ai)))) (cV (ai)))) (cV (ai))))) 16)
 (zI 3)))
def ic:List D->List D->Option (D×List D):=yP .n 4 xA
theorem dL {i m:Int}(h:0<m):0<=i % m/\i % m<m:=⟨Int.emod_nonneg _ (by grind),Z5 _ h⟩
theorem jS {N:Nat}{a b m:Int}(B:Bag N a b)(D:N<=1000000000)(c:0<m)(e:m.natAbs<10^20): ∃d j b',dE (bc a b) [.int m]=p5 (.int d,bc j b')/\Bag (N+1) j b'/\0<=d/\d<m:=by
 have h:m.natAbs<10^200:=SH e (by simp)
 by_cases g:b=0
 ·subst g;refine⟨a % m,a / m,0,?_,⟨jbQ B.a0 ⋯,?_,by simp,⋯,λz=>absurd rfl z⟩,dL c⟩
  ·simp[dE,yP,wb,p9,bc,aF,fL,bO,ar,aY,dZ,ah,aD,gM,gv,df,DY,pi,vO,bp,ce c,eK,pu,uA c h,cI,gm,fO,MI,bH,rC]
  ·have C:=B.a1;have:a / m<=a:=Int.ediv_le_self _ B.a0;have:0<=a / m:=jbQ B.a0 ⋯;omega
 ·have y:=B.lo g;have u:a.natAbs<2^64:=YZ y (by simp);have t:b.natAbs<10^200:=SH (show b.natAbs<10^10 by have:=B.b1;have:=B.b0;lia) (by simp);generalize l:(a^5+48271*b+11) % 2147483647=A;have f:0<=A/\A<2147483647:=by lia
  have x:A.natAbs<10^200:=SH (show A.natAbs<10^10 by grind) (by simp);refine⟨A*69621 % 2147483629 / 8 % m,A,b+1,?_,⟨f.1,?_,by have:=B.b0;lia,by have:=B.b1;nofun,λ_=>⋯⟩,dL c⟩
  ·have r:(48271:Int).natAbs<10^200:=SH (show(48271:Int).natAbs<10^10 by simp) (by simp);have s:(69621:Int).natAbs<10^200:=SH (show(69621:Int).natAbs<10^10 by simp) (by simp);have o:(8:Int).natAbs<10^200:=SH (show(8:Int).natAbs<10^10 by simp) (by simp);have k:fM (.int a) (.int 5)=p5 (.int (a^5)):=l9 (by simp) (by simp) u;have v:fB (.int 48271) (.int b)=p5 (.int (48271*b)):=fu r t;have p: ∀i:Int,bo (.int i) (.int 2147483647)=p5 (.int (i % 2147483647)):=λi=>ce (by simp)
   have w: ∀i:Int,bo (.int i) (.int 2147483629)=p5 (.int (i % 2147483629)):=λi=>ce (by simp)
   have n:fB (.int A) (.int 69621)=p5 (.int (A*69621)):=fu x s;have q: ∀i:Int,mt (.int i) (.int 8)=p5 (.int (i / 8)):=λi=>uA (by simp) o
   simp[dE,yP,wb,p9,bc,aF,fL,bO,ar,aY,dZ,ah,aD,gM,gv,df,DY,pi,vO,g,dc,k,v,p,w,fZ,eK,pu,cI,gm,fO,MI,bH,rC,l,n,q,ce c]
  lia
theorem ax{ρ ρ':aC}(h:t ρ=.nx ρ'):aF t u ρ=u ρ':=by grind[aF]
theorem G2(h:t ρ=.rt d ρ'):aF t u ρ=.rt d ρ':=by unfold aF;rw[h]
abbrev nI(i:Nat):D:=.int (i:Int)
abbrev ki(ns:List Int):D:=.scr (ns.map D.int)
theorem HR(n:Nat):C7 0 n=(R9 n).map nI:=by
 simp[C7]
theorem jJ(h:j<n):vO n (j:Int)=p5 j:=by
 unfold vO;nofun
theorem JQ(ns:List Int)(k:Nat): ∃c,gI [ki ns,nI k]=p5 (.int c):=by
 by_cases h:k<ns.length
 ·refine⟨ns[k],?_⟩;simp[gI,bP,wK,mG,aF,fL,bO,ar,ah,am,ae,ai,cR,pG,DY,h,bH,aY,pi,jJ (show k<(ns.map D.int).length by nofun)];simp[jJ h,h]
 ·refine⟨0,?_⟩;simp[gI,bP,wK,mG,aF,fL,bO,ar,ah,am,ae,ai,cR,pG,DY,h,bH,dc,aD]
theorem yc(ns:List Int)(k:D)(c:D): ∀(l:List Nat),(∀i∈l,i<ns.length/\i<1000)-> ∀(x:Int) (d:Sl),0<=x->x<2147483647-> ∃(b:Int) (a:Sl),0<=b/\b<2147483647/\
 c9 (gN 4) (bp 3 (ar bo (ar cr (ar cr (ar fM (ah 3) (aD (.int 5))) (ar bo (ar aY (ah 0) (ah 4)) (aD (.int 2147483629)))) (ar fB (aD (.int 31)) (ah 4))) (aD (.int 2147483647)))) (l.map nI) [.v (ki ns),.v k,.v c,.v (.int x),d]=.nx [.v (ki ns),.v k,.v c,.v (.int b),a]
 | [],_,x,d,e,g=>⟨x,d,e,g,rfl⟩
 |i::l,f,x,d,e,g=>by
  obtain⟨h,t⟩:=f i (by simp);have o:fM (.int x) (.int 5)=p5 (.int (x^5)):=l9 (by simp) (by simp) (SH (show x.natAbs<10^10 by lia) (by simp));have u:fB (.int 31) (nI i)=p5 (.int (31*i)):=fu (SH (show(31:Int).natAbs<10^10 by simp) (by simp)) (SH (show(i:Int).natAbs<10^10 by omega) (by simp));have q: ∀i:Int,bo (.int i) (.int 2147483647)=p5 (.int (i % 2147483647)):=λi=>ce (by simp)
  have y: ∀i:Int,bo (.int i) (.int 2147483629)=p5 (.int (i % 2147483629)):=λi=>ce (by simp)
  obtain⟨z,r⟩:=dL (i:=x^5+ns[i] % 2147483629+31*i) (m:=2147483647) (by simp);obtain⟨b,a,s,n,p⟩:=yc ns k c l (λj w=>f j (by simp[w])) _ (.v (nI i)) z r;refine⟨b,a,s,n,?_⟩;rw[<-p];simp[c9,gN,bp,ar,ah,aD,o,u,q,y,aY,pi,jJ (show i<(ns.map D.int).length by nofun),jJ h,h,fZ]
theorem My(ns:List Int)(k:Nat)(M:k<=1000)(O:ns.length<=63): ∃a b,Hb [ki ns,nI k]=p5 (.lst (bc a b))/\Bag 1 a b:=by
 obtain⟨c,q⟩:=JQ ns k;have B:fM (.int 10) (.int 60)=p5 (.int (10^60)):=l9 (by simp) (by simp) (by simp);have p:fM (.int 10) (.int 18)=p5 (.int (10^18)):=l9 (by simp) (by simp) (by simp);have f:((10:Int)^60).natAbs<10^200:=by simp
 have g:((10:Int)^60*10^60).natAbs<10^200:=by simp
 have u:fB (.int (10^60)) (.int (10^60))=p5 (.int (10^60*10^60)):=fu f f;have H:fB (.int (10^60*10^60)) (.int (10^60))=p5 (.int (10^60*10^60*10^60)):=fu g f;have F:fB (.int 7919) (nI k)=p5 (.int (7919*k)):=fu (SH (show(7919:Int).natAbs<10^10 by simp) (by simp)) (SH (show(k:Int).natAbs<10^10 by omega) (by simp));generalize y:(if c<0 then -c else c) % (10^60*10^60*10^60)=A;have m:0<=A/\A<10^60*10^60*10^60:=by rw[<-y];exact dL (by simp)
 have w:bp 2 (ar bo (am zf (ae (am (nF 2 gI) (ae (ah 0) (ae (ah 1) (ai)))) (ai))) (ar fB (ar fB (ar fM (aD (.int 10)) (aD (.int 60))) (ar fM (aD (.int 10)) (aD (.int 60)))) (ar fM (aD (.int 10)) (aD (.int 60))))) [.v (ki ns),.v (nI k),.no,.no,.no]=.nx [.v (ki ns),.v (nI k),.v (.int A),.no,.no]:=by
  have o: ∀i:Int,bo (.int i) (.int (10^60*10^60*10^60))=p5 (.int (i % (10^60*10^60*10^60))):=λi=>ce (by simp)
  unfold bp;have:ar bo (am zf (ae (am (nF 2 gI) (ae (ah 0) (ae (ah 1) (ai)))) (ai))) (ar fB (ar fB (ar fM (aD (.int 10)) (aD (.int 60))) (ar fM (aD (.int 10)) (aD (.int 60)))) (ar fM (aD (.int 10)) (aD (.int 60)))) [.v (ki ns),.v (nI k),.no,.no,.no]=p5 (.int A):=by
   have K:am (nF 2 gI) (ae (ah 0) (ae (ah 1) ai)) [.v (ki ns),.v (nI k),.no,.no,.no]=p5 (.int c):=q;simp only[ar,am,ae,ai,aD,Ss,B,u,H,zf];have n:((ah 0 [.v (ki ns),.v (nI k),.no,.no,.no]).bind λd=>((ah 1 [.v (ki ns),.v (nI k),.no,.no,.no]).bind λd=>(p5 []).map λr=>d::r).map λr=>d::r).bind (nF 2 gI)=p5 (.int c):=q;rw[n];grind[zf]
  nofun
 have G:mG 5 [ki ns,nI k]=[.v (ki ns),.v (nI k),.no,.no,.no]:=rfl;unfold Hb bP Fi;rw[G,ax w];have e:A.natAbs<10^180:=by
  have:(10:Int)^60*10^60*10^60=((10^180:Nat):Int):=by simp
  grind
 by_cases t:(10:Int)^18<=A
 ·refine⟨A,0,?_,⟨m.1,e,by decide,by simp,λz=>absurd rfl z⟩⟩;simp only[aF,fL,bO,ar,ah,VU,U3,Ss,aD,p,BT,DY,zm t,bH,Cm,ae,ai,Wa];rfl
 ·generalize s:(A+7919*(k:Int)+17) % 2147483647=x;have h:0<=x/\x<2147483647:=by rw[<-s];exact dL (by simp)
  have o:bo (.int (A+7919*(k:Int)+17)) (.int 2147483647)=p5 (.int x):=by rw[ce (by simp),s]
  have N:cC (ae (am tM (ae (am cR (ae (ah 0) (ai))) (ae (aD (.int 9)) (ai)))) (ai)) [.v (ki ns),.v (nI k),.v (.int A),.v (.int x),.no]=p5 ((R9 (min ns.length 9)).map nI):=by
   rw[yf];simp only[am,ae,ai,ah,aD,U3,Ss,Wa,cR,tM,Sm];have:(if(9:Int)<(ns.length:Int) then(9:Int) else(ns.length:Int))=((min ns.length 9:Nat):Int):=by grind
   rw[this,yj ⋯,HR,U2]
  obtain⟨l,j,E,I,J⟩:=yc ns (nI k) (.int A) (R9 (min ns.length 9)) (λi L=>by grind) x .no h.1 h.2;refine⟨l,1,?_,⟨E,SH (show l.natAbs<10^10 by lia) (by simp),by simp,by simp,λ_=>⋯⟩⟩;have C:eL (cV (cC (ae (am tM (ae (am cR (ae (ah 0) (ai))) (ae (aD (.int 9)) (ai)))) (ai)))) (gN 4) (bp 3 (ar bo (ar cr (ar cr (ar fM (ah 3) (aD (.int 5))) (ar bo (ar aY (ah 0) (ah 4)) (aD (.int 2147483629)))) (ar fB (aD (.int 31)) (ah 4))) (aD (.int 2147483647)))) [.v (ki ns),.v (nI k),.v (.int A),.v (.int x),.no]=.nx [.v (ki ns),.v (nI k),.v (.int A),.v (.int l),j]:=by
   unfold eL cV;nofun
  have D:fL (bO (ar Re (ah 2) (ar fM (aD (.int 10)) (aD (.int 18))))) (bH (bZ (ae (ah 2) (ae (aD (.int 0)) (ai))))) (dc) [.v (ki ns),.v (nI k),.v (.int A),.no,.no]=.nx [.v (ki ns),.v (nI k),.v (.int A),.no,.no]:=by
   simp only[fL,bO,ar,ah,VU,U3,Ss,aD,p,BT,DY,zq t,dc]
  have i2:bp 3 (ar bo (ar cr (ar cr (ah 2) (ar fB (aD (.int 7919)) (ah 1))) (aD (.int 17))) (aD (.int 2147483647))) [.v (ki ns),.v (nI k),.v (.int A),.no,.no]=.nx [.v (ki ns),.v (nI k),.v (.int A),.v (.int x),.no]:=by
   simp only[bp,ar,ah,VU,U3,Ss,aD,F,fZ,o,List.set_cons_succ,List.set_cons_zero]
  rw[ax D,ax i2,ax C];rfl
theorem cL {i n:Nat}{ρ ρ1:aC}{b0 bs ds a:List D}{d:D}(e:gm i ρ=p5 b0)(b:fs ρ=p5 (ds,ρ1))(f:gm i ρ1=p5 bs)(g:ds.length=n)(c:M bs ds=p5 (d,a)):a9 i n M fs ρ=p5 (d,fO i a ρ1):=by
 grind[a9]
theorem yo{ρ ρ1 ρ2:aC}{d:D}{ds:List D}(a:f ρ=p5 (d,ρ1))(b:fs ρ1=p5 (ds,ρ2)):iO f fs ρ=p5 (d::ds,ρ2):=by
 simp_all[iO,bE]
theorem bx{ds:List D}(h:f ρ=p5 ds):cV f ρ=p5 (ds,ρ):=by grind[cV]
theorem oR(h:f ρ=p5 d):pu f ρ=p5 (d,ρ):=by grind[pu]
theorem uj {α β:Type}(f:α->β): ∀(l:List α) (j:Nat),(l.map f).eraseIdx j=(l.eraseIdx j).map f
 | [],_=>rfl
 |_::_,0=>rfl
 |x::l,j+1=>by simp[uj f l j]
theorem rE {α:Type}: ∀(l:List α) (j:Nat) (h:j<l.length),(l[j]::l.eraseIdx j).Perm l
 |_::_,0,_=>.refl _
 |x::l,j+1,h=>by
  have a:=rE l j (by nofun);exact(jcR _ _ _).trans (a.cons x)
theorem kJ: ∀r:List Nat,bJ (r.map nI)=0
 | []=>by rfl
 |a::r=>by
  simp[bJ,kJ,d5]
theorem Hf(r:List Nat):d5 (.lst (r.map nI))<=32:=by grind[d5,kJ]
abbrev RC:FS->Nat->FS:=λb n=>rD (bO (ar oZ (dZ 2) (bZ (ai)))) b n
abbrev B6:FS:=dB (a9 3 1 oY (iO (a9 2 1 sJ (iO (a9 0 1 dE (cV (ae (am cR (ae (dZ 2) (ai))) (ai)))) (cV (ai)))) (cV (ai))))
theorem O2(n:D)(b:List D)(left a:List Nat):bO (ar oZ (dZ 2) (bZ (ai))) [.arg b,.v n,.own (left.map nI),.own (a.map nI)]=p5 (!left.isEmpty):=by
 have c:bZ ai [.arg b,.v n,.own (left.map nI),.own (a.map nI)]=p5 (.lst []):=by
  rfl
 unfold bO ar;rw[c];simp only[dZ,VU,U3,Ss];rw[nK (Hf left)];cases left with
 |nil=>rfl
 |cons x r=>rfl
theorem EB(n:D){N:Nat}(B:Bag N a b)(l:N<=1000000000)(left c:List Nat)(t:0<left.length)(r:left.length<=100)(u:c.length<=100):
 ∃(j:Nat) (h:j<left.length) (f b':Int),B6 [.arg (bc a b),.v n,.own (left.map nI),.own (c.map nI)]=.nx [.arg (bc f b'),.v n,.own ((left.eraseIdx j).map nI),.own ((c++[left[j]]).map nI)]/\Bag (N+1) f b':=by
 obtain⟨d,f,b',e,p,w,x⟩:=jS (m:=left.length) B l (by nofun) (SH (show(left.length:Int).natAbs<10^10 by grind) (by simp));obtain⟨j,rfl⟩: ∃j:Nat,d=(j:Int):=⟨d.toNat,⋯⟩
 have h:j<left.length:=by nofun
 refine⟨j,h,f,b',?_,p⟩;have q:sJ (left.map nI) [.int (j:Int)]=p5 (nI left[j],(left.eraseIdx j).map nI):=by
  grind[IE,jT,jJ,uj]
 have o:oY (c.map nI) [nI left[j]]=p5 (.non,(c++[left[j]]).map nI):=by
  grind[Ch,t9]
 have g:a9 0 1 dE (cV (ae (am cR (ae (dZ 2) (ai))) (ai))) [.arg (bc a b),.v n,.own (left.map nI),.own (c.map nI)]=p5 (nI j,[.arg (bc f b'),.v n,.own (left.map nI),.own (c.map nI)]):=by
  simp[a9,gm,cV,ae,am,dZ,ai,cR,e,fO]
 have k:a9 2 1 sJ (iO (a9 0 1 dE (cV (ae (am cR (ae (dZ 2) (ai))) (ai)))) (cV (ai))) [.arg (bc a b),.v n,.own (left.map nI),.own (c.map nI)]=p5 (nI left[j],[.arg (bc f b'),.v n,.own ((left.eraseIdx j).map nI),.own (c.map nI)]):=by
  refine(cL (i:=2) (n:=1) (b0:=left.map nI) (ds:=[nI j]) (ρ1:=[.arg (bc f b'),.v n,.own (left.map nI),.own (c.map nI)]) rfl (yo g rfl) rfl rfl q).trans rfl
 have s:a9 3 1 oY (iO (a9 2 1 sJ (iO (a9 0 1 dE (cV (ae (am cR (ae (dZ 2) (ai))) (ai)))) (cV (ai)))) (cV (ai))) [.arg (bc a b),.v n,.own (left.map nI),.own (c.map nI)]=p5 (.non,[.arg (bc f b'),.v n,.own ((left.eraseIdx j).map nI),.own ((c++[left[j]]).map nI)]):=by
  refine(cL (i:=3) (n:=1) (b0:=c.map nI) (ds:=[nI left[j]]) (ρ1:=[.arg (bc f b'),.v n,.own ((left.eraseIdx j).map nI),.own (c.map nI)]) rfl (yo k rfl) rfl rfl o).trans rfl
 simp_all[B6,dB]
theorem Li(n:D): ∀(f:Nat) (left c:List Nat) (N:Nat) (a b:Int),left.length<f->left.length<=50->c.length+left.length<=100->Bag N a b->N+left.length<=1000000000->
 ∃(o:List Nat) (d b':Int),RC B6 f [.arg (bc a b),.v n,.own (left.map nI),.own (c.map nI)]=.nx [.arg (bc d b'),.v n,.own [],.own ((c++o).map nI)]/\o.Perm left/\Bag (N+left.length) d b'
 |0,left,c,N,a,b,h,_,_,_,_=>absurd h (WM _)
 |f+1,left,c,N,a,b,h,m,t,B,q=>by
  unfold RC rD;rw[O2];cases e:left.isEmpty with
  |true=>
   have:left=[]:=by simpa using e
   subst this;exact⟨[],a,b,by simp,.refl _,by omega⟩
  |false=>
   have g:0<left.length:=by grind
   obtain⟨j,r,k,l,x,i⟩:=EB n B (by grind) left c g ⋯ (by grind);have s:(left.eraseIdx j).length=left.length-1:=by grind
   obtain⟨o,u,y,z,p,w⟩:=Li n f (left.eraseIdx j) (c++[left[j]]) (N+1) k l (by grind) ⋯ (by simp;lia) i ⋯;grind[rE]
structure Ord(n:Nat)(r:List Nat):Prop where
 perm:r.Perm (R9 n)
theorem Ord.len {n:Nat}{r:List Nat}(o:Ord n r):r.length=n:=by rw[o.perm.length_eq];simp
theorem Ord.lt(o:Ord n r){v:Nat}(h:v∈r):v<n:=by simpa using o.perm.mem_iff.mp h
theorem Ord.has(o:Ord n r){v:Nat}(h:v<n):v∈r:=o.perm.mem_iff.mpr (by nofun)
theorem Ord.nd {n:Nat}{r:List Nat}(o:Ord n r):r.Nodup:=o.perm.nodup_iff.mpr Uf
theorem Ep {n:Nat}(h:n<=1000)(f:FE)(ρ:aC)(e:f ρ=p5 (nI n)):HD f ρ=p5 (.lst ((R9 n).map nI)):=by
 unfold HD KN;rw[e];simp only[Ss];rw[if_pos ⋯,HR];rfl
theorem xu {N:Nat}(B:Bag N a b){n:Nat}(j:n<=12)(i:N<=900000000): ∃(o:List Nat) (c b':Int),ic (bc a b) [nI n]=p5 (.lst (o.map nI),bc c b')/\Ord n o/\Bag (N+n) c b':=by
 obtain⟨o,c,b',e,p,h⟩:=Li (nI n) 16 (R9 n) [] N a b (by simp;grind) (by simp;lia) (by simp;grind) B (by simp;lia);refine⟨o,c,b',?_,⟨p⟩,by nofun⟩;have f:p9 4 (bc a b) [nI n]=[.arg (bc a b),.v (nI n),.no,.no]:=rfl;have d:dW 2 (HD (ah 1)) [.arg (bc a b),.v (nI n),.no,.no]=.nx [.arg (bc a b),.v (nI n),.own ((R9 n).map nI),.no]:=by
  unfold dW;rw[Ep (n:=n) ⋯ (ah 1) _ rfl];rfl
 have g:dW 3 (bZ (ai)) [.arg (bc a b),.v (nI n),.own ((R9 n).map nI),.no]=.nx [.arg (bc a b),.v (nI n),.own ((R9 n).map nI),.own []]:=by
  rfl
 unfold ic yP xA;rw[f,ax d,ax g];have k:rD (bO (ar oZ (dZ 2) (bZ (ai)))) B6 16 [.arg (bc a b),.v (nI n),.own ((R9 n).map nI),.own []]=.nx [.arg (bc c b'),.v (nI n),.own [],.own (o.map nI)]:=e;grind[ax,zI,zL,rC]
theorem aw{x y:D}(a:f ρ=p5 x)(b:g ρ=p5 y):ar F f g ρ=F x y:=by unfold ar;nofun
theorem BS{ρ ρ1 ρ2:aC}(a:f ρ=p5 (x,ρ1))(b:g ρ1=p5 (y,ρ2))(c:F x y=p5 d):pR F f g ρ=p5 (d,ρ2):=by
 unfold pR bE;nofun
theorem bf {i:Nat}{ρ:aC}{d:D}(h:f ρ=p5 d):bp i f ρ=.nx (ρ.set i (.v d)):=by unfold bp;rw[h]
theorem gB {i:Nat}{ρ ρ1:aC}(h:f ρ=p5 (d,ρ1)):f8 i f ρ=.nx (ρ1.set i (.v d)):=by unfold f8;rw[h]
theorem JO {i:Nat}{ρ ρ1:aC}{ds:List D}(h:f ρ=p5 (.lst ds,ρ1)):y8 i f ρ=.nx (ρ1.set i (.own ds)):=by unfold y8;rw[h];rfl
theorem fG {i:Nat}{ρ:aC}{ds:List D}(h:f ρ=p5 (.lst ds)):dW i f ρ=.nx (ρ.set i (.own ds)):=by unfold dW;rw[h];rfl
theorem cE{ds:List D}(h:f ρ=p5 ds)(a:ds.length<=1000):dz f ρ=p5 (.tup ds):=by
 rw[KO,h,Ss,jT a]
theorem mL{ds:List D}(h:f ρ=p5 ds)(a:ds.length<=1000):bZ f ρ=p5 (.lst ds):=by
 rw[Cm,h,Ss,jT a]
theorem ak{d:D}{ds:List D}(a:f ρ=p5 d)(b:fs ρ=p5 ds):ae f fs ρ=p5 (d::ds):=by unfold ae;nofun
theorem bF{ds:List D}(h:f ρ=p5 ds):am F f ρ=F ds:=by unfold am;rw[h];rfl
theorem LE {r:List Nat}(h:c<r.length):pi (r.map nI) (c:Int)=p5 (nI (r.getD c 0)):=Kj (by nofun)
theorem yH {r:List Nat}(h:c<r.length):aY (.lst (r.map nI)) (nI c)=p5 (nI (r.getD c 0)):=LE h
theorem gA {r:List Nat}(h:c<r.length):aY (.tup (r.map nI)) (nI c)=p5 (nI (r.getD c 0)):=LE h
theorem kL(a b:Nat):gV (nI a) (nI b)=χ (a=b):=by
 rw[gv];lia
theorem Mq(a b:Nat):cr (nI a) (nI b)=p5 (nI (a+b)):=by rfl
theorem QQ(a:Nat):cr (nI a) (.int 1)=p5 (nI (a+1)):=by rfl
theorem KR(h:0<n):bo (nI a) (nI n)=p5 (nI (a % n)):=by rw[ce (by nofun)];rfl
theorem hZ{bs:List D}{j:Nat}(a:gm i ρ=p5 bs)(b:fi ρ=p5 (nI j))(c:j<bs.length):cI i fi d ρ=p5 (fO i (bs.set j d) ρ):=by
 unfold cI;rw[a];dsimp only;grind[jJ]
theorem pY(x:List Nat)(j v:Nat):(x.map nI).set j (nI v)=(x.set j v).map nI:=by simp
def yS(n:Nat)(r x:List Nat)(c:Nat):List Nat:=if x.getD c 0=r.getD c 0 then(x.set c (x.getD ((c+1) % n) 0)).set ((c+1) % n) (x.getD c 0) else x
abbrev Cn:FS:=aF (bp 7 (ar bo (ar cr (ah 6) (aD (.int 1))) (ah 1)))
 (fL (bO (ar wS (ar aY (dZ 5) (ah 6)) (ar aY (ah 4) (ah 6)))) (eK (gT 2 (gp (cI 5 (ah 6)) (gp (cI 5 (ah 7)) (kZ)))) (pu (dz (ae (ar aY (dZ 5) (ah 7)) (ae (ar aY (dZ 5) (ah 6)) (ai)))))) (dc))
theorem GP(a:List D)(p q:D)(n:Nat)(r x:List Nat)(c:Nat)(d:Sl)(h:r.length=n)(k:x.length=n)(l:c<n):
 Cn [.arg a,.v (nI n),.v p,.v q,.v (.lst (r.map nI)),.own (x.map nI),.v (nI c),d]=.nx [.arg a,.v (nI n),.v p,.v q,.v (.lst (r.map nI)),.own ((yS n r x c).map nI),.v (nI c),.v (nI ((c+1) % n))]:=by
 have i:(c+1) % n<n:=UR _ ⋯;have f:bp 7 (ar bo (ar cr (ah 6) (aD (.int 1))) (ah 1)) [.arg a,.v (nI n),.v p,.v q,.v (.lst (r.map nI)),.own (x.map nI),.v (nI c),d]=.nx [.arg a,.v (nI n),.v p,.v q,.v (.lst (r.map nI)),.own (x.map nI),.v (nI c),.v (nI ((c+1) % n))]:=
  (bf ((aw (aw (x:=nI c) (y:=.int 1) rfl rfl |>.trans (QQ c)) (y:=nI n) rfl).trans (KR (by grind)))).trans rfl
 unfold Cn;rw[ax f];have b:ar aY (dZ 5) (ah 6) [.arg a,.v (nI n),.v p,.v q,.v (.lst (r.map nI)),.own (x.map nI),.v (nI c),.v (nI ((c+1) % n))]=p5 (nI (x.getD c 0)):=(aw (x:=.lst (x.map nI)) (y:=nI c) rfl rfl).trans (yH (by nofun));have i2:ar aY (ah 4) (ah 6) [.arg a,.v (nI n),.v p,.v q,.v (.lst (r.map nI)),.own (x.map nI),.v (nI c),.v (nI ((c+1) % n))]=p5 (nI (r.getD c 0)):=(aw (x:=.lst (r.map nI)) (y:=nI c) rfl rfl).trans (yH (by nofun));have g:ar aY (dZ 5) (ah 7) [.arg a,.v (nI n),.v p,.v q,.v (.lst (r.map nI)),.own (x.map nI),.v (nI c),.v (nI ((c+1) % n))]=p5 (nI (x.getD ((c+1) % n) 0)):=(aw (x:=.lst (x.map nI)) (y:=nI ((c+1) % n)) rfl rfl).trans (yH (by nofun));unfold fL bO;rw[aw b i2,gM (by rw[df];simp),kL]
 by_cases e:x.getD c 0=r.getD c 0
 ·rw[zm e];simp only[DY];unfold eK;rw[oR (cE (ak g (ak b rfl)) (by simp))];simp only[gT,SN,T3,gp];unfold yS;rw[if_pos e];rw[hZ (bs:=x.map nI) (j:=c) rfl rfl (by nofun)];simp only[Ss];rw[hZ (bs:=(x.map nI).set c (nI (x.getD ((c+1) % n) 0))) (j:=(c+1) % n) rfl rfl (by simp;nofun)];simp only[Ss,kZ,pY];rfl
 ·rw[zq e];simp only[DY,dc];unfold yS;rw[if_neg e]
theorem swap_perm(x:List Nat)(c d:Nat)(a:c<x.length)(b:d<x.length):((x.set c (x.getD d 0)).set d (x.getD c 0)).Perm x:=by
 simpa [Array.swap,Wc,a,b] using (Array.swap_perm (xs:=x.toArray) (i:=c) (j:=d) a b).toList
theorem yZ {x:List Nat}(h:x.Nodup)(a:i<x.length)(b:j<x.length)(e:x.getD i 0=x.getD j 0):i=j:=by
 have:x[i]=x[j]:=by simpa [Wc,a,b] using e
 exact(jbd h).mp this
theorem Ord.fix{r x:List Nat}(or:Ord n r)(d:Ord n x){c:Nat}(l:c<n)(o:2<=n):Ord n (yS n r x c)/\((∀i,i<c->x.getD i 0≠r.getD i 0)-> ∀i,i<c+1->(yS n r x c).getD i 0≠r.getD i 0):=by
 have f:=d.len;have m:=or.len;have k:(c+1) % n<n:=UR _ ⋯;have q: ∀i,i<n->x.getD i 0=x[i]! :=λi j=>by simp
 unfold yS
 by_cases e:x.getD c 0=r.getD c 0
 ·rw[if_pos e];have p:(c+1) % n≠c:=by
   by_cases h:c+1<n
   ·rw[Ww h];simp
   ·grind[Nat.mod_self]
  refine⟨⟨(swap_perm x c _ (by nofun) (by nofun)).trans d.perm⟩,λh i j=>?_⟩;have g:((x.set c (x.getD ((c+1) % n) 0)).set ((c+1) % n) (x.getD c 0)).getD i 0=if i=(c+1) % n then x.getD c 0 else if i=c then x.getD ((c+1) % n) 0 else x.getD i 0:=by
   simp only[Wc,jaP,List.length_set]
   by_cases a:(c+1) % n=i
   ·subst a;simp[f,k]
   ·rw[if_neg a,if_neg (S9 a)]
    by_cases b:c=i
    ·subst b;simp[f,l]
    ·grind
  rw[g]
  by_cases a:i=(c+1) % n
  ·rw[if_pos a,e];intro z;have:=yZ or.nd (by nofun) (by nofun) z;lia
  ·rw[if_neg a]
   by_cases b:i=c
   ·rw[if_pos b,b,<-e];intro z;have:=yZ d.nd (by grind) (by grind) z;nofun
   ·rw[if_neg b];exact h i ⋯
 ·rw[if_neg e];refine⟨d,λh i j=>?_⟩;grind
theorem Lc(f:List D)(p q:D){r:List Nat}(or:Ord n r)(t:2<=n): ∀(k c:Nat) (x:List Nat) (j d:Sl),c+k=n->Ord n x->(∀i,i<c->x.getD i 0≠r.getD i 0)->
 ∃(g:List Nat) (m o:Sl),c9 (gN 6) Cn ((WX c k).map nI) [.arg f,.v (nI n),.v p,.v q,.v (.lst (r.map nI)),.own (x.map nI),j,d]=.nx [.arg f,.v (nI n),.v p,.v q,.v (.lst (r.map nI)),.own (g.map nI),m,o]/\Ord n g/\ ∀i,i<n->g.getD i 0≠r.getD i 0
 |0,c,x,j,d,h,l,s=>⟨x,j,d,rfl,l,λi h'=>s i (by nofun)⟩
 |k+1,c,x,j,d,h,l,s=>by
  obtain⟨y,u⟩:=or.fix l (c:=c) (by grind) t;obtain⟨g,a,b,e,w,z⟩:=Lc f p q or t k (c+1) (yS n r x c) (.v (nI c)) (.v (nI ((c+1) % n))) ⋯ y (u s);refine⟨g,a,b,?_,w,z⟩;rw[jbm,So];unfold c9;have:gN 6 (nI c) [.arg f,.v (nI n),.v p,.v q,.v (.lst (r.map nI)),.own (x.map nI),j,d]=p5 [.arg f,.v (nI n),.v p,.v q,.v (.lst (r.map nI)),.own (x.map nI),.v (nI c),d]:=rfl;rw[this];dsimp only;rw[GP f p q n r x c d or.len l.len (by grind)];exact e
theorem bM {α:Type}{g:FG}{f:FE}{b:aC}{h o:α->D}: ∀(l:List α),(∀i∈l,∃ρ1,g (h i) b=p5 ρ1/\f ρ1=p5 (o i))->cY g dH f b (l.map h)=p5 (l.map o)
 | [],_=>rfl
 |a::l,H=>by
  obtain⟨ρ1,d,e⟩:=H a (by simp);have c:=bM l λi j=>H i (by simp[j])
  rw[So];unfold cY;rw[d,Ss];simp only[dH,Ss,if_true,e,c];rfl
theorem bB{ds ys:List D}(a:gi ρ=p5 ds)(b:ds.length<=1000)(c:cY g p f (ρ++SA m .no) ds=p5 ys):bm m gi g p f ρ=p5 (.lst ys):=by
 grind[EN,jT]
theorem Is: ∀n,2<=n->n<=6-> ∀b,1<=b->b<n->Ord n ((R9 n).map λi=>(i+b) % n):=by
 intro n a d b e c;refine⟨?_⟩;have: ∀n:_root_.Fin 7,∀b:_root_.Fin 7,((R9 n.val).map λi=>(i+b.val) % n.val).isPerm (R9 n.val)=ζ\/ ¬(b.val<n.val):=by decide
 rcases this ⟨n,⋯⟩ ⟨b,⋯⟩ with h|h
 ·exact List.isPerm_iff.mp h
 nofun
abbrev ay(r:List Nat):D:=.tup (r.map nI)
abbrev bt(r x:List Nat):D:=.tup [ay r,ay x]
structure Sq(n:Nat)(r x:List Nat):Prop where
 hr:Ord n r
 hx:Ord n x
 ne: ∀i,i<n->x.getD i 0≠r.getD i 0
theorem cZ{n:Nat}(h:f ρ=p5 [nI n])(a:n<=1000):cC f ρ=p5 ((R9 n).map nI):=by
 rw[yf,h,Ss,yj (by nofun),HR];rfl
theorem RV {j:Int}(h:0<=j):D.int j=nI j.toNat:=by grind
theorem PY{ds:List D}(h:ds.length=n):nF n P ds=P ds:=if_pos h
theorem rg(a:f ρ=p5 (d,ρ1))(b:g d ρ1=p5 ρ2):eK g f ρ=.nx ρ2:=by unfold eK;rw[a];dsimp only;rw[b];rfl
theorem a7 {n:Nat}{ds:List D}(h:fs ρ=p5 ds)(a:ds.length=n):am (nF n P) fs ρ=P ds:=(bF h).trans (PY a)
theorem aS {kd:Kd}{n:Nat}{t:FS}{ds:List D}{ρ:aC}(h:t (mG n ds)=.rt d ρ):bP kd n t ds=p5 d:=by grind[bP]
theorem aU{d:D}(h:f ρ=p5 d):bH f ρ=.rt d ρ:=by grind[bH]
theorem Lf {ks:List (List Int)}(h:ks.length<64)(a: ∀k∈ks,k≠[]):pB [.lst (ks.map aQ)]=p5 (.lst ((bz aT ks).map aQ)):=by
 show(km (ks.map aQ)).map D.lst=_;unfold km;rw[if_pos (by nofun)];cases ks with
 |nil=>rfl
 |cons k ks=>
  grind[D2,ya]
theorem wm: ∀bs:List Bool,ig (bs.map D.bl)=p5 bs
 | []=>rfl
 |b::r=>by simp[ig,wm]
theorem we(bs:List Bool):vd [.lst (bs.map D.bl)]=p5 (.bl (bs.any id)):=by
 show(ig (bs.map D.bl)).map (λbs=>D.bl (bs.any id))=_;simp[wm]
theorem pk(bs:List Bool):vT [.lst (bs.map D.bl)]=p5 (.bl (bs.all id)):=by
 show(ig (bs.map D.bl)).map (λbs=>D.bl (bs.all id))=_;simp[wm]
theorem lB {p:FT}(h:p ρ=p5 θ):fL p t u ρ=u ρ:=by grind[fL]
theorem lZ(h:p ρ=p5 ζ):fL p t u ρ=t ρ:=by grind[fL]
theorem Fj(a:p ρ=p5 θ)(c:q ρ=p5 b):sI p q ρ=p5 b:=by grind[sI]
theorem Ln(a:p ρ=p5 ζ):sI p q ρ=p5 true:=by grind[sI]
theorem pd(a:p ρ=p5 ζ)(c:q ρ=p5 b):d4 p q ρ=p5 b:=by grind[d4]
theorem NC(a:p ρ=p5 θ):d4 p q ρ=p5 false:=by grind[d4]
theorem k8{a b:Bool}(c:p ρ=p5 a)(d:a=ζ->q ρ=p5 b)(e:a=θ->b=θ):d4 p q ρ=p5 b:=by
 cases a with
 |true=>grind[pd]
 |false=>grind[NC]
theorem m6{b:Bool}(h:p ρ=p5 b):xS p ρ=p5 (.bl b):=by grind[xS]
theorem yd{d:D}(h:f ρ=p5 (d,ρ1)):dB f ρ=.nx ρ1:=by grind[dB]
theorem bN{b:Bool}(h:f ρ=p5 (.bl b)):bO f ρ=p5 b:=by unfold bO;rw[h];rfl
theorem dJ{b:Bool}(h:f ρ=p5 (.bl b)):c8 f ρ=p5 b:=by unfold c8;rw[h];rfl
theorem eY{b:Bool}(h:p ρ=p5 b):fN p ρ=p5 (!b):=by grind[fN]
theorem wN(h:d5 x<=32):oZ x x=p5 (.bl θ):=by rw[nK h,mx x (SK h ())];rfl
theorem AY(h:d5 x<=32):wS x x=p5 (.bl ζ):=by rw[gM h,mx x (SK h ())]
theorem bT{d:D}{ρ ρ1 ρ2:aC}(a:g d ρ=p5 ρ1)(c:b ρ1=.nx ρ2):c9 g b (d::r) ρ=c9 g b r ρ2:=by
 grind[c9]
theorem cG{ds:List D}(h:f ρ=p5 (ds,ρ1)):eL f g b ρ=c9 g b ds ρ1:=by grind[eL]
theorem vY{ds:List D}(h:f ρ=p5 (.lst ds)):jE f ρ=p5 ds:=by grind[jE]
theorem Kz(h:f ρ=p5 (.tup ds)):zc f ρ=p5 ds:=by grind[zc]
theorem vG {kd:Kd}{n:Nat}{t:FS}{ds:List D}(h: ∃ρ,t (mG n ds)=.rt d ρ):bP kd n t ds=p5 d:=by grind[aS]
theorem GC(P:aC->Prop)(h: ∃ρ',t ρ=.nx ρ'/\P ρ')(b: ∀ρ',P ρ'-> ∃a,u ρ'=.rt d a): ∃a,aF t u ρ=.rt d a:=by
 grind[ax]
theorem AF{ds:List D}{P:aC->Prop}(h:f ρ=p5 (ds,ρ1))(a: ∃ρ',c9 g b ds ρ1=.nx ρ'/\P ρ'): ∃ρ',eL f g b ρ=.nx ρ'/\P ρ':=by
 grind[cG]
theorem vA{P:aC->Prop}: ∀(l:List D),(∀d∈l,∀ρ,P ρ-> ∃ρ1 ρ2,g d ρ=p5 ρ1/\b ρ1=.nx ρ2/\P ρ2)-> ∀ρ,P ρ-> ∃ρ',c9 g b l ρ=.nx ρ'/\P ρ'
 | [],_,ρ,p=>⟨ρ,rfl,p⟩
 |d::l,h,ρ,p=>by
  obtain⟨ρ1,ρ2,f,i,a⟩:=h d (by simp) ρ p;obtain⟨ρ',e,j⟩:=vA l (λd' c=>h d' (by simp[c])) ρ2 a;grind[bT]
theorem Ja(i:Int){n:Nat}(h:0<n):(i % (n:Int)).toNat<n/\(((i % (n:Int)).toNat:Nat):Int)=i % n:=by
 have:=dL (i:=i) (m:=n) (by nofun);grind
theorem AB {i:Nat}{ρ ρ1:aC}{b0 bs:List D}{d:D}(b:gm i ρ=p5 b0)(a:fs ρ=p5 ([d],ρ1))(c:gm i ρ1=p5 bs)(e:bs.length<=900):dB (a9 i 1 oY fs) ρ=.nx (fO i (bs++[d]) ρ1):=
 yd (cL b a c rfl (by rw[Ch,t9 ⋯]))
theorem fR {α:Type}{g:FG}{p:FT}{f:FE}{b:aC}{h o:α->D}{q:α->Bool}: ∀(l:List α),(∀i∈l,∃ρ1,g (h i) b=p5 ρ1/\p ρ1=p5 (q i)/\(q i=ζ->f ρ1=p5 (o i)))->cY g p f b (l.map h)=p5 ((l.filter q).map o)
 | [],_=>rfl
 |a::l,H=>by
  obtain⟨ρ1,e,k,j⟩:=H a (by simp);have d:=fR l λi c=>H i (by simp[c])
  grind[cY]
theorem eJ {α:Type}{g:FG}{p:FT}{A:FA}{b:aC}{h:α->D}{q:α->Bool}{o:α->List D}: ∀(l:List α),(∀i∈l,∃ρ1,g (h i) b=p5 ρ1/\p ρ1=p5 (q i)/\(q i=ζ->A ρ1=p5 (o i)))->po g p A b (l.map h)=p5 ((l.filter q).flatMap o)
 | [],_=>rfl
 |a::l,H=>by
  obtain⟨ρ1,e,j,f⟩:=H a (by simp);have d:=eJ l λi c=>H i (by simp[c])
  grind[po]
theorem pj(h:f ρ=p5 d):ym f ρ=p5 [d]:=by grind[ym]
theorem pE{ds ys:List D}(a:gi1 ρ=p5 ds)(b:po g1 p1 (G4 gi2 g2 p2 f) (ρ++SA m .no) ds=p5 ys)(c:ys.length<=1000):mN m gi1 g1 p1 gi2 g2 p2 f ρ=p5 (.lst ys):=by
 unfold mN;rw[a,Ss,b,Ss,if_pos (UV (fT c))]
theorem qp{ds ys:List D}(a:gi ρ=p5 ds)(b:po g p (ym f) ρ ds=p5 ys):G4 gi g p f ρ=p5 ys:=by
 grind[G4]
theorem EF(r:List Nat)(ρ:aC)(f:FE)(h:f ρ=p5 (.lst (r.map nI))):am cR (ae f ai) ρ=p5 (nI r.length):=by
 rw[bF (ak h rfl)];show p5 (D.int ((r.map nI).length:Int))=_;simp
theorem eF(r:List Nat)(ρ:aC)(f:FE)(h:f ρ=p5 (ay r)):am cR (ae f ai) ρ=p5 (nI r.length):=by
 rw[bF (ak h rfl)];show p5 (D.int ((r.map nI).length:Int))=_;simp
theorem Jn(a b:Nat):fw (nI a) (nI b)=p5 (.int ((a:Int) -b)):=lY _ _
theorem Os(h:0<n):bo (.int i) (nI n)=p5 (nI (i % n).toNat):=by
 grind[ce,RV,dL]
theorem G5(L:List Nat)(c:Nat):(L.map nI).any (λd=>gV d (nI c))=χ (c∈L):=by
 induction L with
 |nil=>rfl
 |cons a L b=>
  rw[So,Xz,b,kL,U7];grind
theorem R1(L:List Nat)(c:Nat):rQ θ (nI c) (.lst (L.map nI))=p5 (.bl (χ (c∈L))):=by
 unfold rQ pT;dsimp only;rw[show bJ (nI c::L.map nI)=0 from kJ (c::L),if_pos (by simp),G5];rfl
def dI:FS:=
 aF (dW 3 (am xN (ae (ah 0) (ai))))
 (aF (eK (gT 2 (gp (cI 3 (ah 1)) (gp (cI 3 (ah 2)) (kZ)))) (pu (dz (ae (ar aY (ah 0) (ah 2)) (ae (ar aY (ah 0) (ah 1)) (ai))))))
 (bH (am iE (ae (dZ 3) (ai)))))
def f6:List D->Option D:=bP .s 4 dI
def f9:FS:=
 bH (bm 1 (cC (ae (ar bo (ar fw (ah 2) (ah 1)) (ah 0)) (ai))) (gN 3) (dH) (ar bo (ar cr (ah 1) (ah 3)) (ah 0)))
def gg:List D->Option D:=bP .n 3 f9
def gS:FS:=
 bH (am (nF 3 gg) (ae (am cR (ae (ah 0) (ai))) (ae (ah 1) (ae (ah 2) (ai)))))
def fh:List D->Option D:=bP .n 3 gS
def kQ:FS:=
 bH (am (nF 3 gg) (ae (am cR (ae (ah 0) (ai))) (ae (ar aY (ah 0) (ah 1)) (ae (ar aY (ah 0) (ah 2)) (ai)))))
def kX:List D->Option D:=bP .n 3 kQ
def iZ:FS:=
 aF (bp 3 (am (nF 3 kX) (ae (ah 0) (ae (ah 1) (ae (ah 2) (ai))))))
 (bH (am pB (ae (mN 2 (jE (am (nF 3 fh) (ae (ah 0) (ae (ah 1) (ae (ah 2) (ai)))))) (gN 4) (dH) (jE (ah 3)) (gN 5) (dH) (dz (ae (ah 4) (ae (ah 5) (ai))))) (ai))))
def iX:List D->Option D:=bP .n 4 iZ
def m9:FS:=
 bH (am (nF 3 f6) (ae (ah 0) (ae (ah 1) (ae (ah 2) (ai)))))
def uC:List D->Option D:=bP .s 3 m9
def kA:FS:=
 aF (bp 3 (xX (am (nF 3 fh) (ae (ah 0) (ae (ah 1) (ae (ah 2) (ai))))) (Nr (aD (.int 1))) NP))
 (aF (bp 4 (xX (am (nF 3 kX) (ae (ah 0) (ae (ah 1) (ae (ah 2) (ai))))) (Nr (aD (.int 1))) NP))
 (bH (xS (fN (bO (am vd (ae (bm 1 (jE (ah 3)) (gN 5) (dH) (ar (rQ θ) (ar aY (ah 0) (ah 5)) (ah 4))) (ai))))))))
def qg:List D->Option D:=bP .s 5 kA
def jr:FS:=
 aF (eK (gT 2 (gp (gN 4) (gp (gN 5) (kZ)))) (pu (ah 0)))
 (aF (bp 6 (bm 2 (jE (am (nF 3 iX) (ae (ah 1) (ae (ah 2) (ae (ah 3) (ai)))))) (gT 2 (gp (gN 7) (gp (gN 8) (kZ)))) (dH) (ar (rQ θ) (ah 8) (dz (ae (ar aY (ah 4) (ah 7)) (ae (ar aY (ah 5) (ah 7)) (ai)))))))
 (bH (xS (fN (bO (am vd (ae (ah 6) (ai))))))))
def oh:List D->Option D:=bP .s 7 jr
def ku:FS:=
 bH (xS (d4 (bO (am (nF 3 qg) (ae (ah 1) (ae (ah 2) (ae (ah 3) (ai)))))) (bO (am (nF 4 oh) (ae (ah 0) (ae (ah 1) (ae (ah 2) (ae (ah 3) (ai)))))))))
def qw:List D->Option D:=bP .s 4 ku
def gU:FS:=
 aF (bp 2 (HD (am cR (ae (ah 1) (ai)))))
 (bH (mN 2 (jE (ah 2)) (gN 3) (dH) (jE (ah 2)) (gN 4) (d4 (bO (ar oZ (ah 3) (ah 4))) (c8 (am (nF 4 qw) (ae (ah 0) (ae (ah 1) (ae (ah 3) (ae (ah 4) (ai)))))))) (dz (ae (ah 3) (ae (ah 4) (ae (am (nF 3 uC) (ae (ah 1) (ae (ah 3) (ae (ah 4) (ai))))) (ai)))))))
def sD:List D->Option D:=bP .n 3 gU
def gl(n s e:Nat):List Nat:=(R9 (((e:Int) -s) % n).toNat).map λ(i:Nat)=>(s+i) % n
def dM(n s e x:Nat):Bool:=χ (((x:Int) -s) % n<((e:Int) -s) % n)
def tX(n s e:Nat):List Nat:=(R9 n).filter (dM n s e)
theorem wM(h:0<n)(s e:Nat):(gl n s e).length<n:=by
 unfold gl;rw[Sm,T8];exact(Ja _ h).1
theorem lA(h:0<n)(d:s<n)(e x:Nat):x∈gl n s e↔x<n/\dM n s e x=true:=by
 unfold gl dM;rw[SM,zk];have m:=Ja ((e:Int) -s) h;constructor
 ·rintro⟨i,a,rfl⟩;rw[SE] at a;refine⟨UR _ h,?_⟩;rw[Wx,Int.emod_sub_emod,show(((s+i:Nat):Int) -s)=i by lia,Vz (by simp) ⋯];nofun
 ·rintro⟨f,c⟩;have b:=Ja ((x:Int) -s) h;refine⟨(((x:Int) -s) % n).toNat,by nofun,?_⟩;have:(((s+(((x:Int) -s) % n).toNat) % n:Nat):Int)=x:=by
   rw[Wx,XO,b.2,Int.add_emod_emod,show(s:Int)+((x:Int) -s)=x by lia,Vz (by simp) (by nofun)]
  omega
theorem uH(h:0<n)(s e:Nat):(gl n s e).Nodup:=by
 unfold gl;have m:=Ja ((e:Int) -s) h;show List.Pairwise (·≠ ·) _;rw[Uh];refine VC (λ{i j} c b a e=>?_) Ul;rw[SE] at c b;have:(((s+i) % n:Nat):Int)=(((s+j) % n:Nat):Int):=by rw[e]
 rw[Wx,Wx,XO,XO,jeK (s:Int),jeK (s:Int),Int.emod_add_cancel_right,Vz (by simp) ⋯,Vz (by simp) (by grind)] at this;grind
theorem n5:x∈tX n s e↔x<n/\dM n s e x=true:=by simp[tX]
theorem qH(h:0<n)(a:s<n)(e:Nat):(gl n s e).Perm (tX n s e):=
 (Tg (uH h s e) (Vs _ Uf)).mpr λx=>(lA h a e x).trans n5.symm
def eN(A B:List Nat):List (List Int):=A.flatMap λ(a:Nat)=>B.map λ(b:Nat)=>[(a:Int),(b:Int)]
theorem uu {α β:Type}{f g:α->List β}: ∀(l:List α),(∀a∈l,(f a).Perm (g a))->(l.flatMap f).Perm (l.flatMap g)
 | [],_=>.refl _
 |a::l,h=>by
  rw[TU,TU];exact(h a (by simp)).append (uu l λb c=>h b (by simp[c]))
theorem zj {A b B c:List Nat}(d:A.Perm b)(e:B.Perm c):(eN A B).Perm (eN b c):=
 (uu A λa _=>e.map _).trans (List.Perm.flatMap_right _ d)
theorem En {A B:List Nat}(d:A.Pairwise (·< ·))(e:B.Pairwise (·< ·)):(eN A B).Pairwise (λa b=>aT b a=θ):=by
 unfold eN;rw[Xh];refine⟨λa _=>?_,d.imp λ{a h} c x g y f=>?_⟩
 ·rw[Uh];refine e.imp λ{b b'} c=>?_
  unfold aT aT;rw[if_pos rfl,if_neg ⋯];grind
 ·obtain⟨b,_,rfl⟩:=SM.mp g;obtain⟨b',_,rfl⟩:=SM.mp f;unfold aT;lia
theorem Fd(n s e:Nat):(tX n s e).Pairwise (·< ·):=Vs _ Ul
theorem zE(h:0<n)(e:a<n)(d:sa<n)(b c:Nat):bz aT (eN (gl n a b) (gl n sa c))=eN (tX n a b) (tX n sa c):=
 (nZ wz (zj (qH h e b) (qH h d c)).symm (En (Fd _ _ _) (Fd _ _ _))).symm
theorem uI(A B:List Nat):(eN A B).length=A.length*B.length:=by
 unfold eN
 induction A with
 |nil=>simp
 |cons a A b=>rw[TU,SG,Sm,b,SN,ZL,ZM,jeL]
theorem Gi(A B:List Nat): ∀k∈eN A B,k≠[]:=λk a=>by
 unfold eN at a;grind
theorem tZ(h:0<n)(b:n<=900):gg [nI n,nI s,nI e]=p5 (.lst ((gl n s e).map nI)):=by
 apply aS (kd:=.n) (n:=3) (t:=f9);unfold f9;have m:=Ja ((e:Int) -s) h;refine aU (bB (ds:=(R9 (((e:Int) -s) % n).toNat).map nI) (cZ (ak ((aw ((aw (x:=nI e) (y:=nI s) rfl rfl).trans (Jn _ _)) (y:=nI n) rfl).trans (Os h)) rfl) ⋯) (by simp;lia) ?_);refine(bM (h:=nI) (o:=λ(i:Nat)=>nI ((s+i) % n)) _ λi a=>⟨_,rfl,?_⟩).trans (by unfold gl;rw[SJ];rfl);exact(aw ((aw (x:=nI s) (y:=nI i) rfl rfl).trans (Mq _ _)) (y:=nI n) rfl).trans (KR h)
theorem BE{o:List Nat}(c:o.length=n)(h:0<n)(d:n<=900)(a b:Nat):fh [ay o,nI a,nI b]=p5 (.lst ((gl n a b).map nI)):=by
 apply aS (kd:=.n) (n:=3) (t:=gS);unfold gS;exact aU ((a7 (ds:=[nI n,nI a,nI b]) (ak (by rw[eF o _ _ rfl,c]) rfl) rfl).trans (tZ h d))
theorem Cu{o:List Nat}(c:o.length=n)(h:0<n)(d:n<=900)(f:a<n)(e:b<n):kX [ay o,nI a,nI b]=p5 (.lst ((gl n (o.getD a 0) (o.getD b 0)).map nI)):=by
 apply aS (kd:=.n) (n:=3) (t:=kQ);unfold kQ;exact aU ((a7 (ds:=[nI n,nI (o.getD a 0),nI (o.getD b 0)]) (ak (by rw[eF o _ _ rfl,c]) (ak ((aw (x:=ay o) (y:=nI a) rfl rfl).trans (gA (by nofun))) (ak ((aw (x:=ay o) (y:=nI b) rfl rfl).trans (gA (by nofun))) rfl))) rfl).trans (tZ h d))
def Ay(o:List Nat)(a b:Nat):List (List Int):=eN (tX o.length a b) (tX o.length (o.getD a 0) (o.getD b 0))
theorem FK(O:Ord n o)(h:0<n)(m:n<=8)(d:a<n)(g:b<n):iX [ay o,nI a,nI b]=p5 (.lst ((Ay o a b).map aQ)):=by
 have c:=O.len;apply aS (kd:=.n) (n:=4) (t:=iZ);unfold iZ;refine(ax (ρ':=[.v (ay o),.v (nI a),.v (nI b),.v (.lst ((gl n (o.getD a 0) (o.getD b 0)).map nI))]) ((bf ((a7 (ds:=[ay o,nI a,nI b]) rfl rfl).trans (Cu c h ⋯ d g))).trans rfl)).trans ?_
 have f:o.getD a 0<n:=by
  have:o.getD a 0=o[a]'(by nofun):=by nofun
  rw[this];exact O.lt (YU _)
 have r:=wM h a b;have s:=wM h (o.getD a 0) (o.getD b 0);have e:(eN (gl n a b) (gl n (o.getD a 0) (o.getD b 0))).length<=49:=by
  rw[uI];exact Wp (show _<=7 by grind) (show _<=7 by lia)
 have i:mN 2 (jE (am (nF 3 fh) (ae (ah 0) (ae (ah 1) (ae (ah 2) (ai)))))) (gN 4) (dH) (jE (ah 3)) (gN 5) (dH) (dz (ae (ah 4) (ae (ah 5) (ai)))) [.v (ay o),.v (nI a),.v (nI b),.v (.lst ((gl n (o.getD a 0) (o.getD b 0)).map nI))]=p5 (.lst ((eN (gl n a b) (gl n (o.getD a 0) (o.getD b 0))).map aQ)):=by
  refine pE (ds:=(gl n a b).map nI) (vY ((a7 (ds:=[ay o,nI a,nI b]) rfl rfl).trans (BE c h ⋯ a b))) ?_ (by grind)
  refine(eJ (h:=nI) (q:=λ_=>ζ) (o:=λ(x:Nat)=>(gl n (o.getD a 0) (o.getD b 0)).map λ(y:Nat)=>D.tup [nI x,nI y]) (gl n a b) λx p=>⟨_,rfl,rfl,λ_=>?_⟩).trans ?_
  ·refine qp (ds:=(gl n (o.getD a 0) (o.getD b 0)).map nI) rfl ?_
   refine(eJ (h:=nI) (q:=λ_=>ζ) (o:=λ(y:Nat)=>[D.tup [nI x,nI y]]) (gl n (o.getD a 0) (o.getD b 0)) λy k=>⟨_,rfl,rfl,λ_=>pj (cE rfl (by simp))⟩).trans ?_
   rw[Ur.mpr (λ_ _=>rfl)];congr 1
   induction (gl n (o.getD a 0) (o.getD b 0)) with
   |nil=>rfl
   |cons y l j=>nofun
  ·rw[Ur.mpr (λ_ _=>rfl)];unfold eN;rw[Uo];congr 2;funext x;rw[SJ];rfl
 refine aU ?_
 rw[bF (ak i rfl),Lf ⋯ (Gi _ _),zE h d f];unfold Ay;rw[c]
def bU(o:List Nat)(a b:Nat):List Nat:=(o.set a (o.getD b 0)).set b (o.getD a 0)
theorem JR {n:Nat}{o:List Nat}(d:o.length=n)(e:a<n)(c:b<n):f6 [ay o,nI a,nI b]=p5 (ay (bU o a b)):=by
 apply aS (kd:=.s) (n:=4) (t:=dI);unfold dI;refine(ax (ρ':=[.v (ay o),.v (nI a),.v (nI b),.own (o.map nI)]) ((fG (ds:=o.map nI) rfl).trans rfl)).trans ?_
 refine(ax (ρ':=[.v (ay o),.v (nI a),.v (nI b),.own ((bU o a b).map nI)]) (rg (oR (cE (ak ((aw (x:=ay o) (y:=nI b) rfl rfl).trans (gA (by omega))) (ak ((aw (x:=ay o) (y:=nI a) rfl rfl).trans (gA (by omega))) rfl)) (by simp))) ?_)).trans (aU rfl);simp only[gT,SN,T3,gp];rw[hZ (bs:=o.map nI) (j:=a) rfl rfl (by nofun)];simp only[Ss];rw[hZ (bs:=(o.map nI).set a (nI (o.getD b 0))) (j:=b) rfl rfl (by simp;omega)];simp only[Ss,kZ,pY];rfl
theorem C6 {n:Nat}{o:List Nat}(d:o.length=n)(e:a<n)(c:b<n):uC [ay o,nI a,nI b]=p5 (ay (bU o a b)):=by
 apply aS (kd:=.s) (n:=3) (t:=m9);unfold m9;exact aU ((a7 (ds:=[ay o,nI a,nI b]) rfl rfl).trans (JR d e c))
theorem Ro(l:List Nat):sH (l.map nI) (p5 1) ξ=(l.drop 1).map nI:=by
 unfold sH;rw[HT.sIx_none,show(p5 (1:Int))=p5 ((1:Nat):Int) from rfl,HT.sIx_nat];cases l with
 |nil=>rfl
 |cons x r=>
  grind
def gW(o:List Nat)(a b:Nat):Bool:= !((gl o.length a b).drop 1).any λx=>decide (o.getD x 0∈(gl o.length (o.getD a 0) (o.getD b 0)).drop 1)
theorem J9 {n:Nat}{o:List Nat}(c:o.length=n)(h:0<n)(d:n<=900)(m:a<n)(k:b<n):qg [ay o,nI a,nI b]=p5 (.bl (gW o a b)):=by
 apply aS (kd:=.s) (n:=5) (t:=kA);unfold kA;have g: ∀(l:List Nat) (f:FE) (ρ:aC),f ρ=p5 (.lst (l.map nI))->xX f (Nr (aD (.int 1))) NP ρ=p5 (.lst ((l.drop 1).map nI)):=λl f ρ e=>by
  unfold xX;rw[e];show p5 (D.lst (sH (l.map nI) (p5 1) ξ))=_;rw[Ro]
 refine(ax (ρ':=[.v (ay o),.v (nI a),.v (nI b),.v (.lst (((gl n a b).drop 1).map nI)),.no]) ((bf (g _ _ _ ((a7 (ds:=[ay o,nI a,nI b]) rfl rfl).trans (BE c h d a b)))).trans rfl)).trans ?_
 refine(ax (ρ':=[.v (ay o),.v (nI a),.v (nI b),.v (.lst (((gl n a b).drop 1).map nI)),.v (.lst (((gl n (o.getD a 0) (o.getD b 0)).drop 1).map nI))]) ((bf (g _ _ _ ((a7 (ds:=[ay o,nI a,nI b]) rfl rfl).trans (Cu c h d m k)))).trans rfl)).trans ?_
 refine aU (m6 ?_);unfold gW;rw[c];refine eY (bN ?_);have q:=wM h a b;rw[bF (ak (bB (ds:=((gl n a b).drop 1).map nI) (ys:=(((gl n a b).drop 1).map λx=>decide (o.getD x 0∈(gl n (o.getD a 0) (o.getD b 0)).drop 1)).map D.bl) rfl (by simp;grind) ?_) rfl),we,Wv]
 ·rfl
 ·rw[SJ];refine bM (h:=nI) _ λx p=>⟨_,rfl,?_⟩
  have j:x<n:=by
   have:=ZC p;unfold gl at this;obtain⟨i,_,rfl⟩:=SM.mp this;exact UR _ h
  refine(aw ((aw (x:=ay o) (y:=nI x) rfl rfl).trans (gA (by nofun))) (y:=.lst (((gl n (o.getD a 0) (o.getD b 0)).drop 1).map nI)) rfl).trans ?_
  rw[R1];rfl
theorem Fu(h:0<n)(c:s<n)(j:e<n)(i:s≠e): ∃r,gl n s e=s::r:=by
 unfold gl;have m:=Ja ((e:Int) -s) h;have b:0<(((e:Int) -s) % n).toNat:=by
  have:((e:Int) -s) % n≠0:=λz=>by
   have:=Int.emod_emod_of_dvd;have d:=Int.dvd_of_emod_eq_zero z;obtain⟨q,g⟩:=d;have:q=0:=by
    rcases Int.lt_trichotomy q 0 with a|a|a
    ·have:(n:Int)*q<=n*(-1):=XC ⋯ (by simp);lia
    ·omega
    ·have:(n:Int)*1<=n*q:=XC ⋯ (by simp);grind
   subst this;lia
  lia
 obtain⟨k,f⟩: ∃k,(((e:Int) -s) % n).toNat=k+1:=⟨_,(Nat.succ_pred_eq_of_pos b).symm⟩
 rw[f,V2,So,jaQ,Ww c];exact⟨_,rfl⟩
theorem mE(h:0<n)(b:s<n)(a:e<n)(c:s≠e)(x:Nat):x∈(gl n s e).drop 1↔x<n/\dM n s e x=ζ/\x≠s:=by
 grind[Fu,uH,lA]
theorem mo {α β:Type}(f:α->β): ∀l:List α,l.flatMap (λc=>[f c])=l.map f
 | []=>rfl
 |a::l=>by rw[TU,mo f l];rfl
theorem Fa: ∀k:List Int,bJ (k.map D.int)=0
 | []=>by rfl
 |a::k=>by simp[bJ,Fa,d5]
theorem Kw(k:List Int):d5 (aQ k)=1:=by simp[aQ,d5,Fa]
theorem zT: ∀ks:List (List Int),bJ (ks.map aQ)<=1
 | []=>by simp[bJ]
 |k::ks=>by
  simp[bJ,zT,Kw]
theorem Hs: ∀k l:List Int,iS (k.map D.int) (l.map D.int)=χ (k=l)
 | [],[]=>by rfl
 | [],_::_=>by rfl
 |_::_,[]=>by rfl
 |a::k,b::l=>by
  simp[iS,Hs,gv]
theorem JA(k l:List Int):gV (aQ k) (aQ l)=χ (k=l):=by
 simp[aQ,gV,Hs]
theorem Oe(K:List (List Int))(k:List Int):(K.map aQ).any (λd=>gV d (aQ k))=χ (k∈K):=by
 induction K with
 |nil=>rfl
 |cons a K b=>
  rw[So,Xz,b,JA,U7];grind
theorem RG(K:List (List Int))(k:List Int):rQ θ (aQ k) (.lst (K.map aQ))=p5 (.bl (χ (k∈K))):=by
 unfold rQ pT;dsimp only;have:=zT (k::K);rw[if_pos (by grind),Oe];rfl
theorem Ord.get{o:List Nat}(O:Ord n o){i:Nat}(h:i<n):o.getD i 0<n:=by
 have a:=O.len;have:o.getD i 0=o[i]'(by nofun):=by nofun
 rw[this];exact O.lt (YU _)
theorem Ord.inj{o:List Nat}(O:Ord n o)(a:i<n)(b:j<n)(e:o.getD i 0=o.getD j 0):i=j:=yZ O.nd (by rw[O.len];exact a) (by rw[O.len];exact b) e
theorem qm{o:List Nat}(O:Ord n o)(d:a<n)(c:b<n)(g:a≠b):gW o a b=ζ↔ ∀x,x<n-> ¬(dM n a b x=ζ/\x≠a/\dM n (o.getD a 0) (o.getD b 0) (o.getD x 0)=ζ/\o.getD x 0≠o.getD a 0):=by
 have h:0<n:=by lia
 have e:o.getD a 0≠o.getD b 0:=λz=>g (O.inj d c z)
 unfold gW;rw[O.len];simp only[Uw,W7,zk];constructor
 ·intro H x f ⟨i,m,k,l⟩;exact H x ((mE h d c g x).mpr ⟨f,i,m⟩) ((mE h (O.get d) (O.get c) e _).mpr ⟨O.get f,k,l⟩)
 ·intro H x f j;obtain⟨u,s,r⟩:=(mE h d c g x).mp f;obtain⟨t,q,p⟩:=(mE h (O.get d) (O.get c) e _).mp j;grind
def kY(r x o:List Nat)(a b:Nat):Bool:= !(tX o.length a b).any λc=>decide (r.getD c 0∈tX o.length (o.getD a 0) (o.getD b 0))||decide (x.getD c 0∈tX o.length (o.getD a 0) (o.getD b 0))
theorem R6(y p q:Nat):rQ θ (nI y) (.tup [nI p,nI q])=p5 (.bl (χ (y=p\/y=q))):=by
 unfold rQ pT;dsimp only;rw[show bJ [nI y,nI p,nI q]=0 from kJ [y,p,q],if_pos (by simp)];have:=G5 [p,q] y;nofun
theorem HG{r x o:List Nat}(O:Ord n o)(C:r.length=n)(A:x.length=n)(h:0<n)(z:n<=8)(m:a<n)(u:b<n):oh [bt r x,ay o,nI a,nI b]=p5 (.bl (kY r x o a b)):=by
 have g:=O.len;have j: ∀s e,(tX n s e).length<=8:=λs e=>by grind[tX]
 have i:(Ay o a b).length<=64:=by
  unfold Ay;rw[uI,g];exact Wp (j a b) (j (o.getD a 0) (o.getD b 0))
 apply aS (kd:=.s) (n:=7) (t:=jr);unfold jr;refine(ax (ρ':=[.v (bt r x),.v (ay o),.v (nI a),.v (nI b),.v (ay r),.v (ay x),.no]) (rg (oR rfl) rfl)).trans ?_
 let P:List Nat×Nat->Bool:=λ_=>ζ
 have w:(Ay o a b).map aQ=((tX n a b).flatMap λc=>(tX n (o.getD a 0) (o.getD b 0)).map λy=>(c,y)).map λp:Nat×Nat=>D.tup [nI p.1,nI p.2]:=by
  unfold Ay eN;rw[Uo,Uo,g];congr 1;funext c;rw[SJ,SJ];rfl
 have l:bm 2 (jE (am (nF 3 iX) (ae (ah 1) (ae (ah 2) (ae (ah 3) (ai)))))) (gT 2 (gp (gN 7) (gp (gN 8) (kZ)))) (dH) (ar (rQ θ) (ah 8) (dz (ae (ar aY (ah 4) (ah 7)) (ae (ar aY (ah 5) (ah 7)) (ai))))) [.v (bt r x),.v (ay o),.v (nI a),.v (nI b),.v (ay r),.v (ay x),.no]
  =p5 (.lst ((((tX n a b).flatMap λc=>(tX n (o.getD a 0) (o.getD b 0)).map λy=>(c,y)).map λp:Nat×Nat=>decide (p.2=r.getD p.1 0\/p.2=x.getD p.1 0)).map D.bl)):=by
  refine bB (ds:=(Ay o a b).map aQ) (vY ((a7 (ds:=[ay o,nI a,nI b]) rfl rfl).trans (FK O h z m u))) (by grind) ?_
  rw[w,SJ];refine bM (h:=λp:Nat×Nat=>D.tup [nI p.1,nI p.2]) _ λp f=>⟨_,rfl,?_⟩
  obtain⟨c,q,f⟩:=Vg.mp f;obtain⟨y,B,rfl⟩:=SM.mp f;have k:c<n:=(n5.mp q).1;refine(aw (x:=nI y) (y:=.tup [nI (r.getD c 0),nI (x.getD c 0)]) rfl (cE (ak ((aw (x:=ay r) (y:=nI c) rfl rfl).trans (gA (by nofun))) (ak ((aw (x:=ay x) (y:=nI c) rfl rfl).trans (gA (by nofun))) rfl)) (by simp))).trans ?_
  exact R6 _ _ _
 refine(ax (ρ':=[.v (bt r x),.v (ay o),.v (nI a),.v (nI b),.v (ay r),.v (ay x),.v (.lst ((((tX n a b).flatMap λc=>(tX n (o.getD a 0) (o.getD b 0)).map λy=>(c,y)).map λp:Nat×Nat=>decide (p.2=r.getD p.1 0\/p.2=x.getD p.1 0)).map D.bl))]) ((bf l).trans rfl)).trans ?_
 refine aU (m6 ?_);unfold kY;refine eY (bN ?_);rw[bF (ak (d:=.lst _) rfl rfl),we,Wv,g];congr 2;rw[U7];simp only[List.any_eq_true,Vg,SM,Function.comp,id,zk,XQ];grind
def bR(r x o:List Nat)(a b:Nat):Bool:=gW o a b&&kY r x o a b
theorem CP{r x o:List Nat}(O:Ord n o)(e:r.length=n)(g:x.length=n)(h:0<n)(f:n<=8)(d:a<n)(c:b<n):qw [bt r x,ay o,nI a,nI b]=p5 (.bl (bR r x o a b)):=by
 apply aS (kd:=.s) (n:=4) (t:=ku);unfold ku;refine aU (m6 (k8 (a:=gW o a b) (bN ((a7 (ds:=[ay o,nI a,nI b]) rfl rfl).trans (J9 O.len h ⋯ d c))) (λz=>bN ((a7 (ds:=[bt r x,ay o,nI a,nI b]) rfl rfl).trans ?_)) λz=>by grind[bR]));grind[HG,bR]
abbrev za(o:List Nat)(a b:Nat):D:=.tup [nI a,nI b,ay (bU o a b)]
def F5(P:Nat->Nat->Bool)(o:List Nat):List D:=(R9 o.length).flatMap λa=>((R9 o.length).filter λb=>decide (a≠b)&&P a b).map λb=>za o a b
theorem Hl{r x o:List Nat}(O:Ord n o)(j:r.length=n)(p:x.length=n)(h:0<n)(e:n<=8):sD [bt r x,ay o]=p5 (.lst (F5 (bR r x o) o)):=by
 have g:=O.len;apply aS (kd:=.n) (n:=3) (t:=gU);unfold gU;refine(ax (ρ':=[.v (bt r x),.v (ay o),.v (.lst ((R9 n).map nI))]) ((bf (Ep (n:=n) ⋯ _ _ (by rw[eF o _ _ rfl,g]))).trans rfl)).trans ?_
 refine aU (pE (ds:=(R9 n).map nI) rfl ?_ ?_)
 ·refine(eJ (h:=nI) (q:=λ_=>ζ) (o:=λ(a:Nat)=>((R9 n).filter λb=>decide (a≠b)&&bR r x o a b).map λb=>za o a b) (R9 n) λa c=>⟨_,rfl,rfl,λ_=>?_⟩).trans ?_
  ·rw[SE] at c;refine qp (ds:=(R9 n).map nI) rfl ?_
   refine(eJ (h:=nI) (q:=λb=>decide (a≠b)&&bR r x o a b) (o:=λ(b:Nat)=>[za o a b]) (R9 n) λb i=>⟨_,rfl,?_,λ_=>pj (cE (ak rfl (ak rfl (ak ((a7 (ds:=[ay o,nI a,nI b]) rfl rfl).trans (C6 g c (by nofun))) rfl))) (by simp))⟩).trans ?_
   ·rw[SE] at i;refine k8 (a:=χ (a≠b)) (bN ?_) (λz=>?_) (λz=>by rw[z];rfl)
    ·rw[aw (x:=nI a) (y:=nI b) rfl rfl,nK (by rw[df];simp),kL];simp
    ·rw[z,VE];exact dJ ((a7 (ds:=[bt r x,ay o,nI a,nI b]) rfl rfl).trans (CP O j p h e c i))
   ·rw[mo]
  ·rw[Ur.mpr (λ_ _=>rfl)];grind[F5]
 ·have d: ∀(l:List Nat) (m:Nat) (f:Nat->List D),(∀a,(f a).length<=m)->(l.flatMap f).length<=l.length*m:=by
   intro l m f u
   induction l with
   |nil=>simp
   |cons a l s=>rw[TU,SG,SN,ZL,ZM];grind
  unfold F5;rw[g];have k:=d (R9 n) n (λa=>((R9 n).filter λb=>decide (a≠b)&&bR r x o a b).map λb=>za o a b) (λa=>by grind);rw[T8] at k;have:n*n<=8*8:=Wp e e;omega
def js:FS:=
 aF (bp 4 (am cR (ae (ah 1) (ai))))
 (aF (bp 5 (ar bo (ar fw (ar aY (ah 1) (ah 3)) (ar aY (ah 1) (ah 2))) (ah 4)))
 (aF (eL (cV (cC (ae (ar bo (ar fw (ah 3) (ah 2)) (ah 4)) (ai)))) (gN 6) (aF (bp 7 (ar bo (ar cr (ah 2) (ah 6)) (ah 4)))
 (aF (fL (d4 (bO (ar NJ (ah 6) (aD (.int 0)))) (bO (ar o7 (ar bo (ar fw (ar aY (ah 1) (ah 7)) (ar aY (ah 1) (ah 2))) (ah 4)) (ah 5)))) (bH (aD (.bl θ))) (dc))
 (fL (sI (bO (ar o7 (ar bo (ar fw (ar aY (ar aY (ah 0) (aD (.int 0))) (ah 7)) (ar aY (ah 1) (ah 2))) (ah 4)) (ah 5))) (bO (ar o7 (ar bo (ar fw (ar aY (ar aY (ah 0) (aD (.int 1))) (ah 7)) (ar aY (ah 1) (ah 2))) (ah 4)) (ah 5)))) (bH (aD (.bl θ))) (dc)))))
 (bH (aD (.bl ζ)))))
def xQ:List D->Option D:=bP .s 8 js
theorem yF {α:Type}{g:FG}{b:FS}{h:α->D}{ok:α->Bool}{d:D}{P:aC->Prop}: ∀(l:List α),(∀x∈l,∀ρ,P ρ-> ∃ρ1,g (h x) ρ=p5 ρ1/\(ok x=ζ-> ∃ρ2,b ρ1=.nx ρ2/\P ρ2)/\(ok x=θ-> ∃ρ2,b ρ1=.rt d ρ2))->
 ∀ρ,P ρ->(l.all ok=ζ-> ∃ρ',c9 g b (l.map h) ρ=.nx ρ'/\P ρ')/\(l.all ok=θ-> ∃ρ',c9 g b (l.map h) ρ=.rt d ρ')
 | [],_,ρ,p=>⟨λ_=>⟨ρ,rfl,p⟩,λz=>by simp at z⟩
 |x::l,H,ρ,p=>by
  obtain⟨ρ1,a,f,m⟩:=H x (by simp) ρ p;rw[YE,So];cases e:ok x with
  |true=>
   obtain⟨ρ2,k,c⟩:=f e;have i:=yF l (λy j=>H y (by simp[j])) ρ2 c;rw[VE,bT a k];exact i
  |false=>
   grind[c9]
def Pe(n:Nat)(r x o:List Nat)(a b:Nat)(k:Nat):Bool:= !(χ (0<k)&&dM n (o.getD a 0) (o.getD b 0) (o.getD ((a+k) % n) 0))&& !(dM n (o.getD a 0) (o.getD b 0) (r.getD ((a+k) % n) 0)||dM n (o.getD a 0) (o.getD b 0) (x.getD ((a+k) % n) 0))
def B8(n:Nat)(r x o:List Nat)(a b:Nat):Bool:=(R9 (((b:Int) -a) % n).toNat).all (Pe n r x o a b)
theorem zW{r x o:List Nat}(M:o.length=n)(T:r.length=n)(N:x.length=n)(h:0<n)(V:n<=900)(C:a<n)(J:b<n):xQ [bt r x,ay o,nI a,nI b]=p5 (.bl (B8 n r x o a b)):=by
 refine vG (kd:=.s) (n:=8) (t:=js) ?_
 unfold js;have m:=Ja ((b:Int) -a) h;have j: ∀ {i:Nat},i<n-> ∀(ρ:aC) (f:FE),f ρ=p5 (nI i)->ah 1 ρ=p5 (ay o)->ar aY (ah 1) f ρ=p5 (nI (o.getD i 0)):=λ{i} O ρ f G H=>(aw H G).trans (gA (by nofun))
 have B:bp 4 (am cR (ae (ah 1) (ai))) [.v (bt r x),.v (ay o),.v (nI a),.v (nI b),.no,.no,.no,.no]=.nx [.v (bt r x),.v (ay o),.v (nI a),.v (nI b),.v (nI n),.no,.no,.no]:=(bf (d:=nI n) (by rw[eF o _ _ rfl,M])).trans rfl;have F:bp 5 (ar bo (ar fw (ar aY (ah 1) (ah 3)) (ar aY (ah 1) (ah 2))) (ah 4)) [.v (bt r x),.v (ay o),.v (nI a),.v (nI b),.v (nI n),.no,.no,.no]=.nx [.v (bt r x),.v (ay o),.v (nI a),.v (nI b),.v (nI n),.v (.int (((o.getD b 0:Int) -o.getD a 0) % n)),.no,.no]:=
  (bf ((aw ((aw (j J _ _ rfl rfl) (j C _ _ rfl rfl)).trans (Jn _ _)) (y:=nI n) rfl).trans (ce (by nofun)))).trans rfl
 have q:=yF (g:=gN 6) (h:=nI) (ok:=Pe n r x o a b) (d:=.bl θ) (P:=λρ=> ∃E w,ρ=[.v (bt r x),.v (ay o),.v (nI a),.v (nI b),.v (nI n),.v (.int (((o.getD b 0:Int) -o.getD a 0) % n)),E,w])
  (b:=aF (bp 7 (ar bo (ar cr (ah 2) (ah 6)) (ah 4)))
    (aF (fL (d4 (bO (ar NJ (ah 6) (aD (.int 0)))) (bO (ar o7 (ar bo (ar fw (ar aY (ah 1) (ah 7)) (ar aY (ah 1) (ah 2))) (ah 4)) (ah 5)))) (bH (aD (.bl θ))) (dc))
    (fL (sI (bO (ar o7 (ar bo (ar fw (ar aY (ar aY (ah 0) (aD (.int 0))) (ah 7)) (ar aY (ah 1) (ah 2))) (ah 4)) (ah 5))) (bO (ar o7 (ar bo (ar fw (ar aY (ar aY (ah 0) (aD (.int 1))) (ah 7)) (ar aY (ah 1) (ah 2))) (ah 4)) (ah 5)))) (bH (aD (.bl θ))) (dc))))
  (R9 (((b:Int) -a) % n).toNat) ?_ [.v (bt r x),.v (ay o),.v (nI a),.v (nI b),.v (nI n),.v (.int (((o.getD b 0:Int) -o.getD a 0) % n)),.no,.no] ⟨_,_,rfl⟩
 ·have D: ∀ {o':Out},c9 (gN 6) (aF (bp 7 (ar bo (ar cr (ah 2) (ah 6)) (ah 4)))
   (aF (fL (d4 (bO (ar NJ (ah 6) (aD (.int 0)))) (bO (ar o7 (ar bo (ar fw (ar aY (ah 1) (ah 7)) (ar aY (ah 1) (ah 2))) (ah 4)) (ah 5)))) (bH (aD (.bl θ))) (dc))
   (fL (sI (bO (ar o7 (ar bo (ar fw (ar aY (ar aY (ah 0) (aD (.int 0))) (ah 7)) (ar aY (ah 1) (ah 2))) (ah 4)) (ah 5))) (bO (ar o7 (ar bo (ar fw (ar aY (ar aY (ah 0) (aD (.int 1))) (ah 7)) (ar aY (ah 1) (ah 2))) (ah 4)) (ah 5)))) (bH (aD (.bl θ))) (dc)))) ((R9 (((b:Int) -a) % n).toNat).map nI) [.v (bt r x),.v (ay o),.v (nI a),.v (nI b),.v (nI n),.v (.int (((o.getD b 0:Int) -o.getD a 0) % n)),.no,.no]=o'->
   eL (cV (cC (ae (ar bo (ar fw (ah 3) (ah 2)) (ah 4)) (ai)))) (gN 6) _ [.v (bt r x),.v (ay o),.v (nI a),.v (nI b),.v (nI n),.v (.int (((o.getD b 0:Int) -o.getD a 0) % n)),.no,.no]=o':=λ{o'} e=>
   (cG (bx (cZ (n:=(((b:Int) -a) % n).toNat) (ak ((aw ((aw (x:=nI b) (y:=nI a) rfl rfl).trans (Jn _ _)) (y:=nI n) rfl).trans (Os h)) rfl) ⋯))).trans e
  cases ef:B8 n r x o a b with
  |true=>
   obtain⟨ρ',e,_⟩:=q.1 ef;exact⟨ρ',(ax B).trans ((ax F).trans ((ax (D e)).trans rfl))⟩
  |false=>
   obtain⟨ρ',e⟩:=q.2 ef;exact⟨ρ',(ax B).trans ((ax F).trans (G2 (D e)))⟩
 ·rintro k R ρ ⟨E,w,rfl⟩;have I:(a+k) % n<n:=UR _ h;refine⟨[.v (bt r x),.v (ay o),.v (nI a),.v (nI b),.v (nI n),.v (.int (((o.getD b 0:Int) -o.getD a 0) % n)),.v (nI k),w],rfl,?_⟩
  let ρ2:aC:=[.v (bt r x),.v (ay o),.v (nI a),.v (nI b),.v (nI n),.v (.int (((o.getD b 0:Int) -o.getD a 0) % n)),.v (nI k),.v (nI ((a+k) % n))]
  have A:bp 7 (ar bo (ar cr (ah 2) (ah 6)) (ah 4)) [.v (bt r x),.v (ay o),.v (nI a),.v (nI b),.v (nI n),.v (.int (((o.getD b 0:Int) -o.getD a 0) % n)),.v (nI k),w]=.nx ρ2:=(bf ((aw ((aw (x:=nI a) (y:=nI k) rfl rfl).trans (Mq _ _)) (y:=nI n) rfl).trans (KR h))).trans rfl;have l: ∀(f:FE) (v:Nat),f ρ2=p5 (nI v)->bO (ar o7 (ar bo (ar fw f (ar aY (ah 1) (ah 2))) (ah 4)) (ah 5)) ρ2=p5 (dM n (o.getD a 0) (o.getD b 0) v):=λf v K=>bN ((aw ((aw ((aw K (j C _ _ rfl rfl)).trans (Jn _ _)) (y:=nI n) rfl).trans (ce (by nofun))) rfl).trans (pG _ _))
  have S:=l _ _ (j I ρ2 (ah 7) rfl rfl);have U:=l (ar aY (ar aY (ah 0) (aD (.int 0))) (ah 7)) (r.getD ((a+k) % n) 0) ((aw (x:=ay r) (y:=nI ((a+k) % n)) rfl rfl).trans (gA (by nofun)));have Q:=l (ar aY (ar aY (ah 0) (aD (.int 1))) (ah 7)) (x.getD ((a+k) % n) 0) ((aw (x:=ay x) (y:=nI ((a+k) % n)) rfl rfl).trans (gA (by nofun)));have L:bO (ar NJ (ah 6) (aD (.int 0))) ρ2=p5 (χ (0<k)):=bN ((aw (x:=nI k) (y:=.int 0) rfl rfl).trans ((JF _ _).trans (by simp)));have p:d4 (bO (ar NJ (ah 6) (aD (.int 0)))) (bO (ar o7 (ar bo (ar fw (ar aY (ah 1) (ah 7)) (ar aY (ah 1) (ah 2))) (ah 4)) (ah 5))) ρ2=p5 (χ (0<k)&&dM n (o.getD a 0) (o.getD b 0) (o.getD ((a+k) % n) 0)):=
   k8 L (λz=>⋯) (λz=>by rw[z];rfl)
  have u:sI (bO (ar o7 (ar bo (ar fw (ar aY (ar aY (ah 0) (aD (.int 0))) (ah 7)) (ar aY (ah 1) (ah 2))) (ah 4)) (ah 5))) (bO (ar o7 (ar bo (ar fw (ar aY (ar aY (ah 0) (aD (.int 1))) (ah 7)) (ar aY (ah 1) (ah 2))) (ah 4)) (ah 5))) ρ2=p5 (dM n (o.getD a 0) (o.getD b 0) (r.getD ((a+k) % n) 0)||dM n (o.getD a 0) (o.getD b 0) (x.getD ((a+k) % n) 0)):=by
   grind[dM,Ln,Fj]
  unfold Pe;refine⟨λc=>?_,λc=>?_⟩
  ·rw[TL,Uw,Uw] at c;rw[c.1] at p;rw[c.2] at u;exact⟨ρ2,(ax A).trans ((ax (lB p)).trans (lB u)),_,_,rfl⟩
  ·cases e:(decide (0<k)&&dM n (o.getD a 0) (o.getD b 0) (o.getD ((a+k) % n) 0)) with
   |true=>
    rw[e] at p;exact⟨ρ2,(ax A).trans (G2 (lZ p))⟩
   |false=>
    rw[e] at p c;rw[Bool.not_false,VE,Bool.not_eq_false'] at c;rw[c] at u;exact⟨ρ2,(ax A).trans ((ax (lB p)).trans (lZ u))⟩
theorem IG {n:Nat}(h:0<n){a b:Nat}(ha:a<n)(hb:b<n)(P:Nat->Nat->Prop)(Q:Nat->Prop)(h0:a≠b):(∀k,k<(((b:Int) -a) % n).toNat->Q ((a+k) % n))↔ ∀c,c<n->dM n a b c=ζ->Q c:=by
 constructor
 ·intro H c hc hin;have:c∈gl n a b:=(lA h ha b c).mpr ⟨hc,hin⟩;grind[gl]
 ·intro H k hk;have:(a+k) % n∈gl n a b:=by grind[gl]
  grind[lA]
theorem Dp(O:Ord n o)(R:Ord n r)(X:Ord n x)(f:a<n)(p:b<n)(s:a≠b):B8 n r x o a b=bR r x o a b:=by
 have h:0<n:=by grind
 have m:=Ja ((b:Int) -a) h;rw[U7];unfold bR;rw[TL,qm O f p s];unfold B8 kY;rw[TQ,O.len];simp only[Uw,W7,n5,XQ,zk,not_or];have w: ∀k,k<(((b:Int) -a) % n).toNat->(0<k↔(a+k) % n≠a):=by
  intro k g;have u:k<n:=by omega
  by_cases d:k=0
  ·subst d;rw[jaQ,Ww f];simp
  ·refine⟨λ_=>?_,λ_=>by grind⟩
   by_cases D:a+k<n
   ·grind[Ww]
   ·rw[Nat.mod_eq_sub_mod (by nofun),Ww (by omega)];omega
 constructor
 ·intro H;have t: ∀k,k<(((b:Int) -a) % n).toNat->(¬((a+k) % n≠a/\dM n (o.getD a 0) (o.getD b 0) (o.getD ((a+k) % n) 0)=true))/\ ¬dM n (o.getD a 0) (o.getD b 0) (r.getD ((a+k) % n) 0)=true/\ ¬dM n (o.getD a 0) (o.getD b 0) (x.getD ((a+k) % n) 0)=true:=by
   intro k g;have z:=H k (by nofun);grind[Pe]
  have q:=(IG h f p (λ_ _=>True) (λc=>(¬(c≠a/\dM n (o.getD a 0) (o.getD b 0) (o.getD c 0)=ζ))/\ ¬dM n (o.getD a 0) (o.getD b 0) (r.getD c 0)=ζ/\ ¬dM n (o.getD a 0) (o.getD b 0) (x.getD c 0)=ζ) s).mp t;grind
 ·rintro⟨C,q⟩ k g;rw[SE] at g;have l:(a+k) % n∈gl n a b:=by grind[gl]
  obtain⟨i,A⟩:=(lA h f b _).mp l;obtain⟨y,v⟩:=q _ ⟨i,A⟩;unfold Pe;simp only[TL,Uw,Bool.or_eq_false_iff,Zx,decide_eq_false_iff_not];refine⟨?_,?_,?_⟩
  ·by_cases d:0<k
   ·right;have j:=(w k g).mp d;have B:o.getD ((a+k) % n) 0≠o.getD a 0:=λz=>j (O.inj i f z)
    grind
   lia
  ·cases e:dM n (o.getD a 0) (o.getD b 0) (r.getD ((a+k) % n) 0) with
   |false=>rfl
   |true=>exact absurd ⟨R.get i,e⟩ y
  ·cases e:dM n (o.getD a 0) (o.getD b 0) (x.getD ((a+k) % n) 0) with
   |false=>rfl
   |true=>exact absurd ⟨X.get i,e⟩ v
section
variable {X:Cx}{c:Ct}{pos:Pos}
def zA(i j:Nat)(b:FA):FS:=λρ=>match b ρ with
 |some [a,c]=>.nx ((ρ.set i (.v a)).set j (.v c))
 |_=>.no
theorem EO(i j:Nat){a b:Expr}{kt k2 pt2}(r:X.calm=ζ)(m:X.N.Nodup)(o:DA X c [a,b] fs)(s:X.N[i]? =p5 x:=by rfl)(p:X.N[j]? =p5 y:=by rfl)(e:i≠j:=by decide)
 (u:X.env.scope.names.lookup x=p5 .local:=by rfl) (w:X.env.scope.names.lookup y=p5 .local:=by rfl)
 (hw:Xx [.Tuple [.Name x px,.Name y py] kt pt] (.Tuple [a,b] k2 pt2) X.env=pure (p5 [x,y]):=by rfl)
 (n:Xw [.Tuple [.Name x px,.Name y py] kt pt] (.Tuple [a,b] k2 pt2) pos.line X.env=pure false:=by rfl):
 DS X c k (.Assign [.Tuple [.Name x px,.Name y py] kt pt] (.Tuple [a,b] k2 pt2) pos) (zA i j fs):=λρ=>
 PS.imp (MP r m s p e u w (Oi λhid=>o hid ρ) hw n) λD σ H g=>by
  obtain⟨hid,h,q⟩:=g;unfold zA at q;cases d:fs ρ with
  |none=>rw[d] at q;exact q.elim
  |some ds=>
   rw[d] at q
   match ds,d,q with
   | [],_,q=>exact q.elim
   | [_],_,q=>exact q.elim
   |_::_::_::_,_,q=>exact q.elim
   | [B,z],d,q=>
     refine⟨hid,h,[B,z],d,λvs A l f=>?_⟩;cases f with
     |cons f t=>
      cases t with
      |cons v t=>
       cases t;exact⟨_,_,rfl,q _ A hid (((h.ext l).setV f i).setV v j) (aH l)⟩
end
open PySem PySem.W PySem.Spec PyProof.Rows
theorem Inv.turnedL{s:Sc}{h':Heap}{t':Nat}(L:List Addr)(I:Inv X aa σ H s)(f: ∀b∈L,iT X aa H b)(k: ∀b o,b∉L->s.heap.get? b=p5 o->h'.get? b=p5 o):Inv X aa σ H {s with heap:=h',toks:=t'}:=by
 have d: ∀b u,H b=p5 u->b∉L:=λb u e z=>by rw[(f b z).1] at e;nofun
 have h:X.env.locals∉L:=λz=>(f _ z).2.1 rfl
 refine I.step (g':=s.gens) (d':=s.drawn) (ch:=L) (λb j=>?_) (λb o _ _ a e _=>k b o a e) (λb o _ _ a e _=>⟨o.slots,k b o a e⟩) (λ_ _ _ _ n=>n)
  (λb o a e=>⟨o,k b o a e⟩) (λ_ _ e=>e) (λ_ _ _ e=>e) (λb A e=>⟨#[],by rw[e];rfl⟩) (λm p=>?_) (λb u e=>?_) I.bare
 ·obtain⟨x,w,y,t,l,i⟩:=f b j;exact⟨t,w,l,i⟩
 ·obtain⟨o,es,ep,g,r⟩:=p;exact⟨o,es,ep,k _ o h g,r⟩
 ·refine(I.hok b u e).stay (λc v a q=>k c v ?_ q) (λ_ q=>q) λ_ _ q=>q
  rcases a with z|z
  ·rw[z];exact d b u e
  ·exact d c _ z
def Rz(K:Sf)(a b:Addr):It:=
 ⟨λi H=> ∃xs ys x y,SqL K H a xs/\SqL K H b ys/\xs[i]? =p5 x/\ys[i]? =p5 y,λi H x c=> ∃T,x=.ref T/\H T=ξ/\ ∀xs ys,SqL K H a xs->SqL K H b ys-> ∃y z,xs[i]? =p5 y/\ys[i]? =p5 z/\c=aV H T (.tup [y,z]),λi H=> ∃xs ys,SqL K H a xs/\SqL K H b ys/\(xs.length<=i\/ys.length<=i)⟩
theorem GY{K:Sf}{x1}(a b z TI TO l i2:Addr)(AP:ZipApart z TI TO l i2 a b):rb P w K (.Tuple es x1 pos) (Rz K a b) [z,TI,TO,l,i2] z (λi h=>IsZip h z TI TO .none/\IsPair h TI (.ref l) (.ref i2)/\(∃p q,IsPair h TO p q)/\h.IsListIter l a i/\h.IsListIter i2 b i) where
 mem:=by simp
 obj:=λi h st c d=>by
  obtain⟨hz,f,⟨p,q,j⟩,⟨o1,ho1,_,hd1⟩,⟨o2,ho2,_,hd2⟩⟩:=st;grind
 keep:=λi h h' st k=>by
  obtain⟨hz,f,⟨p,q,j⟩,C,D⟩:=st;exact⟨k z (by simp) _ hz,k TI (by simp) _ f,⟨p,q,k TO (by simp) _ j⟩,C.at λo x=>k l (by simp) o x,D.at λo x=>k i2 (by simp) o x⟩
 item:=by
  intro X hP hw T d i N s σ H E I hf st hg;subst hP hw T;obtain⟨xs,ys,x,y,n,m,M,hy⟩:=hg;obtain⟨B,A,px,S⟩:=I.list n;obtain⟨t,r,py,R⟩:=I.list m;obtain⟨u,hu,ru⟩:=A.get M;obtain⟨v,hv,rv⟩:=r.get hy;obtain⟨hz,f,⟨p,q,j⟩,C,D⟩:=st;refine wpAny_pyNext_zip_item AP hz f j C D (show s.heap.IsList a B.toArray from px.isList) (show s.heap.IsList b t.toArray from py.isList) (x:=u) (y:=v) (by simpa using hu) (by simpa using hv) λg gz W g1 g2 gT gsz Z=>⟨_,rfl,?_⟩
  refine wpAny_letOwnedTupleGo_zip gz λg' gz' Y=>?_
  have lz:z<s.heap.objs.size:=Sw hz;have lTI:TI<s.heap.objs.size:=Sw f;have lTO:TO<s.heap.objs.size:=Sw j;have li1:l<s.heap.objs.size:=let⟨_,e,_⟩:=C;Sw e
  have li2:i2<s.heap.objs.size:=let⟨_,e,_⟩:=D;Sw e
  have F: ∀c,c≠z->g'.get? c=g.get? c:=λc d=>Y.2 c d
  have gT':g'.get? s.heap.objs.size=p5 {cls:=.type "tuple",data:=.seq #[u,v]}:=(F _ (Uc lz)).trans gT;have L:IsPair g' TO u v:=(F _ AP.TOz).trans W;have U:g'.IsListIter l a (i+1):=g1.at λo e=>(F _ AP.i1z).trans e
  have O:g'.IsListIter i2 b (i+1):=g2.at λo e=>(F _ AP.i2z).trans e
  have G:IsPair g' TI (.ref l) (.ref i2):=(F _ AP.TIz).trans (Z TI _ AP.TIz AP.TITO AP.TIi1 AP.TIi2 f);have hn:H s.heap.objs.size=none:=I.hok.fresh (Sn _);have fl: ∀c∈[z,TI,TO,l,i2],c<s.heap.objs.size:=λc d=>by
   simp only[SU,Wz,or_false] at d;lia
  have J: ∀c∈[z,TI,TO,l,i2],iT X N (aV H s.heap.objs.size (.tup [x,y])) c:=λc d=>by
   obtain⟨f0,f1,f2,f3,f4,f5⟩:=hf c d;exact⟨by rw[az (SW (fl c d))];exact f0,f1,f2,f3,f4,f5⟩
  have I0:Inv X N σ (aV H s.heap.objs.size (.tup [x,y])) {s with heap:=s.heap.push {cls:=.type "tuple",data:=.seq #[u,v]},toks:=s.toks}:=
   I.laid (t':=s.toks) (λb o q=>Sd _ q) (Sn _) (show b6 X.prog X.w _ _ _ (.tup [x,y]) from
    ⟨UV (fT (by simp)),[u,v],.cons ru (.cons rv .nil),⟨_,Sj _ rfl,rfl,_,rfl⟩,_,Sj _ rfl,rfl⟩)
  have I1:Inv X N σ (aV H s.heap.objs.size (.tup [x,y])) {s with heap:=g',toks:=s.toks}:=by
   have:=Inv.turnedL (t':=s.toks) (h':=g') [z,TI,TO,l,i2] I0 J λc o d e=>?_
   ·omega
   simp only[SU,Wz,or_false,not_or] at d
   by_cases ec:c=s.heap.objs.size
   ·subst ec;have e:(s.heap.push {cls:=.type "tuple",data:=.seq #[u,v]}).get? s.heap.objs.size=p5 o:=e;rw[Sj _ rfl] at e;nofun
   ·have e:(s.heap.push {cls:=.type "tuple",data:=.seq #[u,v]}).get? c=p5 o:=e;rw[Yt _ _ _ ec] at e;exact(F c d.1).trans (Z c o d.1 d.2.2.1 d.2.2.2.1 d.2.2.2.2 e)
  refine⟨.ref s.heap.objs.size,aV H s.heap.objs.size (.tup [x,y]),I1,rfl,⟨_,rfl,hn,λxs' ys' V Q=>⟨x,y,by rw[I.list_inj V n];exact M,by rw[I.list_inj Q m];exact hy,rfl⟩⟩,⟨gz',G,⟨_,_,L⟩,U,O⟩,λc d=>(J c d).1⟩
 done:=by
  intro X hP hw T d i N s σ H E I hf st hg;subst hP hw T;obtain⟨xs,ys,n,m,M⟩:=hg;obtain⟨B,A,px,S⟩:=I.list n;obtain⟨t,r,py,R⟩:=I.list m;obtain⟨hz,f,⟨p,q,j⟩,C,D⟩:=st;have l1:=A.length;have l2:=r.length;refine wpAny_pyNext_zip_end (I.ok.hd d) AP hz f j C D (show s.heap.IsList a B.toArray from px.isList) (show s.heap.IsList b t.toArray from py.isList) (M.imp (λe=>by simp;nofun) λe=>by simp;nofun) λg Z=>⟨rfl,?_⟩
  refine Inv.turnedL [z,TI,TO,l,i2] I hf λc o d e=>?_
  grind
 self:=λ_ _ _ _ _ st h=>let⟨hz,_⟩:=st;jbo hz h
section
variable {X:Cx}{p:Pos}
def xZ(xs ys:List D):List D:=(R9 (min xs.length ys.length)).map λ(i:Nat)=>D.tup [xs.getD i .non,ys.getD i .non]
def Hq(f g:FE):FA:=λρ=>match f ρ,g ρ with
 |some (.lst xs),some (.lst ys)=>p5 (xZ xs ys)
 |_,_=>ξ
theorem Dy(h:Hq f g ρ=p5 ds): ∃xs ys,f ρ=p5 (.lst xs)/\g ρ=p5 (.lst ys)/\ds=xZ xs ys:=by
 unfold Hq at h;split at h
 ·nofun
 nofun
theorem EW {K:Sf}{ds es:List D}(f:SqL K W a xs)(h:SqL K W b ys)(l:Reps K W xs ds)(j:Reps K W ys es):rl K W (Rz K a b) (xZ ds es):=by
 have M:=l.length;have N:=j.length;have p:(xZ ds es).length=min ds.length es.length:=by simp[xZ]
 refine⟨λi d H e s=>?_,λH s=>⟨_,_,ab.seq s f,ab.seq s h,?_⟩⟩
 ·have L:i<min ds.length es.length:=by rw[<-p];exact(Sz.mp e).1
  have n:xs[i]? =p5 xs[i]:=Su (by grind);have z:ys[i]? =p5 ys[i]:=Su (by omega);refine⟨⟨_,_,xs[i],ys[i],ab.seq s f,ab.seq s h,n,z⟩,λy G ⟨T,C,m,r⟩=>?_⟩;subst C;obtain⟨u,v,x,g,A⟩:=r _ _ (ab.seq s f) (ab.seq s h);subst A;refine⟨aM m _,λhid w k=>?_⟩;have B:hid T=false:=by
   cases eh:hid T with
   |false=>rfl
   |true=>obtain⟨o,F⟩:=w T eh;nofun
  obtain⟨d',I,E⟩:=l.get' x;obtain⟨c,J,t⟩:=j.get' g;have q:d=.tup [d',c]:=by
   unfold xZ at e;nofun
  rw[q];exact h9 m B (.cons (E.mono k) (.cons (t.mono k) .nil))
 ·lia
theorem Dm(n a b:Nat)(c:a<n)(d:b<n):ZipApart (n+4) (n+2) (n+3) n (n+1) a b:=by
 constructor<;>(show¬ @Eq Nat _ _)<;>omega
theorem JK(Z:DP X c .s e1 f)(h2:DP X c .s e2 g)(hm:X.mg "zip"=ξ)(hg:Gl X "zip":=by rfl)(F:Sv [e1,e2] X.env=(θ,eval e1 X.env)::Sv [e2] X.env:=by rfl)(k:Sv [e2] X.env=[(θ,eval e2 X.env)]:=by rfl):DIp X c (.Tuple es x1 tp) (.Call (.Name "zip" p) [e1,e2] [] pos) (Hq f g):=by
 intro hid ρ U s σ H R I V;obtain⟨L,ds,hd,q⟩:=V;obtain⟨xs,ys,Q,a2,rfl⟩:=Dy hd;refine Call_ (jy (u:=.type "zip") I hg hm (by rfl) (UF (bC (bn (Z hid ρ) (bn (h2 hid ρ) bX k) F pos U s σ H (λvs l=> ∃v w,vs=[v,w]/\ab H l/\Rep X.K (vw l hid) v (.lst xs)/\Rep X.K (vw l hid) w (.lst ys)) I ⟨L,_,Q,λv l s' r=>⟨L.ext s',_,a2,λw S j t=>⟨v,w,rfl,s'.trans j,Rep.mono (aH j) r,t⟩⟩⟩) λvs a ⟨ws,G,d,r1,v,w,e,s',r,t⟩=>?_) F (by rw[k];rfl)));subst e;cases r1 with
 |cons ra A=>
  cases A with
  |cons A rc=>
   cases rc;cases r with
   |lst n t2=>
    cases t with
    |lst m O=>
     have n:=SqL.of (K:=X.K) n;have m:=SqL.of (K:=X.K) m;cases ra;cases A;obtain⟨D,rvx,px,T⟩:=d.list ((cu _ _).seq n);obtain⟨C,N,W,P⟩:=d.list ((cu _ _).seq m);have J: ∀ {c:Addr} {us},a.heap.IsList c us->c<a.heap.objs.size:=λh=>let⟨_,e,_⟩:=h;Sw e
     have M:a.heap.IsList _ D.toArray:=px.isList;have i:a.heap.IsList _ C.toArray:=W.isList;have m1:=J M;have Y:=J i;refine call_zip_2 M i λg hz B y E z hsz hk=>?_
     refine jbo hz ⟨_,[a.heap.objs.size+4,a.heap.objs.size+2,a.heap.objs.size+3,a.heap.objs.size,a.heap.objs.size+1],_,_,G,rfl,d.kept (t':=a.toks) λb o e=>hk b o e,GY _ _ _ _ _ _ _ (Dm _ _ _ m1 Y),⟨hz,B,⟨_,_,y⟩,E,z⟩,λb x=>?_,q _ G s' (EW n m t2 O)⟩;have x:a.heap.objs.size<=b:=by
      grind
     exact d.fpOk x (d.hok.fresh x)
end
section
variable {X:Cx}{b:Expr}{p:Pos}
def LG(K:Sf):R2:=λx y H Q=> ∃l b xs zs,x=.ref l/\y=.ref b/\SqL K H l xs/\SqL K H b zs/\xs.length+zs.length<=SC/\ ∀p,H p=ξ->Q (.ref p) (aV H p (.lst (xs++zs)))
theorem Ii:kK X (U9 .Add) (LG X.K):=by
 intro S s σ H x y v u Q I J N h;obtain⟨l,b,xs,zs,rfl,rfl,B,E,hz,q⟩:=h;cases J;cases N;obtain⟨c,r,⟨o,n,e,k,m,g⟩,U⟩:=I.list B;obtain⟨a,f,⟨w,D,t,p,j,i⟩,T⟩:=I.list E;obtain⟨R,O,V,M⟩:=o;obtain⟨z,A,G,d⟩:=w;dsimp only at k m g p j i;subst k m g p j i;have P:=r.length;have L:=f.length;refine jaB ⟨_,e,rfl⟩ ⟨_,t,rfl⟩ noFill_list_add seq_list_add PySem.F.slot_list_add PySem.F.entry_list_add (PySem.F.args_list_add_2 _ _) (list_addW l b c.toArray a.toArray n D ξ ξ M d (by nofun)) ⟨e,t,?_⟩;have C:c.toArray++a.toArray=(c++a).toArray:=by simp
 rw[C];exact⟨.ref _,_,I.lnew (t':=s.toks) (r.append f) (by rw[SG];omega),rfl,q _ I.fresh⟩
def yz:D->D->Option D
 | .lst xs,.lst ys=>if xs.length+ys.length<=SC then p5 (.lst (xs++ys)) else ξ
 |_,_=>ξ
theorem Jz {K:Sf}:rR K .n (LG K) yz:=by
 intro H hid v u x y d Q l h k j q;unfold yz at h;split at h
 ·split at h
  ·rename_i hz
   cases h;obtain⟨a,xs,rfl,g,f⟩:=k.lst;obtain⟨b,ys,rfl,i,c⟩:=j.lst;exact⟨a,b,xs,ys,rfl,rfl,g,i,by rw[f.length,c.length];exact hz,λp e=>q _ _ (aM e _) (gL e (ab.refl _) (f.append c))⟩
  nofun
 nofun
theorem J3(e:DP X c k1 a f)(d:DP X c k2 b g):DP X c .n (.BinOp a .Add b pos) (ar yz f g):=oj Ii Jz e d
end
section
theorem b6.there{h:Heap}(x:b6 P w H h a o): ∃u,h.get? a=p5 u:=by
 induction o with
 |lst xs=>obtain⟨_,_,_,_,e⟩:=x;exact⟨_,e⟩
 |tup xs=>obtain⟨_,_,_,⟨_,e,_⟩,_⟩:=x;exact⟨_,e⟩
 |dK kvs=>obtain⟨_,_,_,_,o,_,_,e,_⟩:=x;exact⟨_,e⟩
 |dT kvs=>obtain⟨_,_,_,_,o,_,_,e,_⟩:=x;exact⟨_,e⟩
 |set S n=>obtain⟨o,_,_,_,e,_⟩:=x;exact⟨_,e⟩
 |tst xs=>obtain⟨o,_,_,_,e,_⟩:=x;exact⟨_,e⟩
 |ins C d c=>obtain⟨_,_,_,e,_⟩:=x;exact⟨_,e⟩
 |own y=>obtain⟨_,e⟩:=x;exact⟨_,e⟩
 |xd c=>obtain⟨_,⟨_,_,_,e,_⟩,_⟩:=x;exact⟨_,e⟩
 |rng i g=>obtain⟨_,_,_,e⟩:=x;exact⟨_,e⟩
 |frz ob u b=>obtain⟨e,_⟩:=x;exact⟨_,e⟩
 |nst p u b=>exact b x
 |tbl j=>exact⟨_,show h.get? a=p5 _ from x⟩
 |met f y=>exact⟨_,show h.get? a=p5 _ from x⟩
 |ext φ=>obtain⟨_,⟨_,e⟩,_⟩:=x;exact⟨_,e⟩
end
section
def d9(f:FE):FA:=λρ=>(f ρ).bind λd=>match d with
 | .lst ds=>p5 ds
 | .tup ds=>p5 ds
 |_=>ξ
theorem cg {j a:Expr}(h:DP X c .s a f):DIp X c j a (d9 f):=λhid ρ i s σ H R I e=>by
 obtain⟨g,ds,b,q⟩:=e;unfold d9 at b;cases e2:f ρ with
 |none=>nofun
 |some d=>
  rw[e2,Ss] at b;cases d with
  |lst xs=>cases b;exact ee h hid ρ i s σ H R I ⟨g,ds,by unfold jE;rw[e2];rfl,q⟩
  |tup xs=>cases b;exact Bv h hid ρ i s σ H R I ⟨g,ds,by unfold zc;rw[e2];rfl,q⟩
  |_=>nofun
end
theorem F9{x1}:Sv (.Tuple es x1 pos::rest) env=(θ,eval (.Tuple es x1 pos) env)::Sv rest env:=by rfl
@[elab_as_elim] theorem ar0 {motive:List Sb->Prop} (us:List Sb) (b:us.length=0) (h:motive []):motive us:=by
 cases us with
 |nil=>exact h
 |cons a r=>exact absurd b (Nat.succ_ne_zero _)
@[elab_as_elim] theorem ar1 {motive:List Sb->Prop} (us:List Sb) (b:us.length=1) (h: ∀a,motive [a]):motive us:=by
 cases us with
 |nil=>nofun
 |cons a r=>nofun
@[elab_as_elim] theorem ar2 {motive:List Sb->Prop} (us:List Sb) (c:us.length=2) (h: ∀a b,motive [a,b]):motive us:=by
 cases us with
 |nil=>nofun
 |cons a r=>exact ar1 (motive:=λr=>motive (a::r)) r (W8 c) (h a)
@[elab_as_elim] theorem ar3 {motive:List Sb->Prop} (us:List Sb) (c:us.length=3) (h: ∀a b d,motive [a,b,d]):motive us:=by
 cases us with
 |nil=>nofun
 |cons a r=>exact ar2 (motive:=λr=>motive (a::r)) r (W8 c) (h a)
@[elab_as_elim] theorem ar4 {motive:List Sb->Prop} (us:List Sb) (d:us.length=4) (h: ∀a c e b,motive [a,c,e,b]):motive us:=by
 cases us with
 |nil=>nofun
 |cons a r=>exact ar3 (motive:=λr=>motive (a::r)) r (W8 d) (h a)
@[elab_as_elim] theorem ar5 {motive:List Sb->Prop} (us:List Sb) (b:us.length=5) (h: ∀a e f d c,motive [a,e,f,d,c]):motive us:=by
 cases us with
 |nil=>exact absurd b ()
 |cons a r=>exact ar4 (motive:=λr=>motive (a::r)) r (W8 b) (h a)
@[elab_as_elim] theorem ar6 {motive:List Sb->Prop} (us:List Sb) (b:us.length=6) (h: ∀a f g e d c,motive [a,f,g,e,d,c]):motive us:=by
 cases us with
 |nil=>exact absurd b ()
 |cons a r=>exact ar5 (motive:=λr=>motive (a::r)) r (W8 b) (h a)
@[irreducible] def QP (X:Cx) (c:Ct) (e:Expr) (f:FE):Prop:=DP X c .s e f
@[irreducible] def QA (X:Cx) (c:Ct) (es:List Expr) (f:FA):Prop:=DA X c es f
@[irreducible] def QS (X:Cx) (c:Ct) (k:Kd) (st:Stmt) (t:FS):Prop:=DS X c k st t
@[irreducible] def QSs (X:Cx) (c:Ct) (k:Kd) (st:List Stmt) (t:FS):Prop:=AI X c k st t
section
variable {X:Cx}{pos:Pos}{st:Stmt}
theorem QP.of(h:DP X c .s e f):QP X c e f:=by unfold QP;exact h
theorem QP.dp(h:QP X c e f):DP X c .s e f:=by unfold QP at h;exact h
theorem QA.da(h:QA X c es fs):DA X c es fs:=by unfold QA at h;exact h
theorem QS.of(h:DS X c k st t):QS X c k st t:=by unfold QS;exact h
theorem QS.ds(h:QS X c k st t):DS X c k st t:=by unfold QS at h;exact h
theorem QSs.to(h:QSs X c k rest t):AI X c k rest t:=by unfold QSs at h;exact h
theorem HN:QA X c [] ai:=by unfold QA;exact al
theorem Im(h:QP X c e f)(a:QA X c es fs)(b:Sv (e::es) X.env=(θ,eval e X.env)::Sv es X.env:=by rfl):QA X c (e::es) (ae f fs):=by unfold QA;exact ag h.dp a.da b
theorem Mz {x1}(h:QA X c es fs):QP X c (.Tuple es x1 pos) (dz fs):=.of (cz h.da)
theorem M3(h:QA X c es fs):QP X c (.List es pos) (bZ fs):=.of (DP.toS (cU h.da))
theorem JV(i:Nat)(g:X.N.Nodup)(a:QP X c e f)(h:X.N[i]? =p5 x:=by rfl)(j:Ed X.env.scope x:=by first|exact TJ rfl|exact Ta rfl)(b:UD e (some (.Name x pos')) pos.line X.env=pure false:=by rfl)
 (d:X.fn x=ζ\/X.env.scope.names.lookup x=p5 .local:=by first|exact .inl rfl|exact .inr rfl|assumption):QS X c k (.Assign [.Name x pos'] e pos) (bp i f):=.of (aZ i g a.dp h j b d)
theorem mD(a:QS X c k st t)(b:QSs X c k rest u):QSs X c k (st::rest) (aF t u):=by unfold QSs;exact aj a.ds b.to
theorem Br(h:QS X c k st t):QSs X c k [st] t:=by unfold QSs;exact ao h.ds
end
section
variable {κ:Type} [DecidableEq κ]
def dh(kvs:List (κ×V))(k:κ):Option V:=(kvs.find? λa=>decide (a.1=k)).map (·.2)
def iJ(kvs:List (κ×V))(k:κ)(v:V):List (κ×V):=
 if(kvs.any λa=>decide (a.1=k))=ζ then kvs.map (λa=>if a.1=k then(a.1,v) else a) else kvs++[(k,v)]
theorem mC {p:κ×V}{r:List (κ×V)}(e:p.1=k):dh (p::r) k=p5 p.2:=by simp[dh,Vr,e]
theorem l7 {p:κ×V}(e: ¬p.1=k):dh (p::r) k=dh r k:=by simp[dh,Vr,e]
theorem xG(k:κ): ∀kvs:List (κ×V),(kvs.any λa=>decide (a.1=k))=(dh kvs k).isSome
 | []=>rfl
 |p::r=>by
  rw[Xz]
  by_cases e:p.1=k
  ·simp only[mC e,zm e,Bool.true_or,jad]
  ·rw[l7 e,zq e,Bool.false_or];exact xG k r
theorem jC(kvs:List (κ×V))(k:κ)(v:V):(iJ kvs k v).length<=kvs.length+1:=by
 unfold iJ;grind[T3]
theorem oi.isSome_eq {o:Option V}{u:Option Sb}(r:oi o u):o.isSome=u.isSome:=by
 cases o with
 |none=>cases u with
  |none=>rfl
  |some _=>exact(show False from r).elim
 |some _=>cases u with
  |none=>exact(show False from r).elim
  |some _=>rfl
theorem oi.getD {o:Option V}{u:Option Sb}(r:oi o u)(a:bS d d'):bS (o.getD d) (u.getD d'):=by
 cases o with
 |none=>cases u with
  |none=>exact a
  |some _=>exact(show False from r).elim
 |some _=>cases u with
  |none=>exact(show False from r).elim
  |some _=>exact r
theorem KV.val(r:KV kvs vs)(k:κ):oi (dh kvs k) (jcf vs k):=by
 unfold KV at r
 induction r with
 |nil=>exact True.intro
 | @cons p q i d h t g=>
   obtain⟨a,f⟩:=h
   by_cases e:p.1=k
   ·have c:q.1=k:=a.symm.trans e;have b:jcf (q::d) k=p5 q.2:=by simp[jcf,Vr,c]
    rw[mC e,b];exact f
   grind[jcf,l7]
theorem KV.any {kvs:List (κ×V)}{vs:List (κ×Sb)}(r:KV kvs vs)(k:κ):(kvs.any λa=>decide (a.1=k))=vs.any λa=>decide (a.1=k):=by
 unfold KV at r
 induction r with
 |nil=>rfl
 |cons h t b=>nofun
theorem KV.repl {kvs:List (κ×V)}{vs:List (κ×Sb)}(r:KV kvs vs)(k:κ)(g:bS y u):
 KV (kvs.map λa=>if a.1=k then(a.1,y) else a) (vs.map λa=>if a.1=k then(a.1,u) else a):=by
 unfold KV at r⊢
 induction r with
 |nil=>exact .nil
 | @cons p q i d h t b=>
   rw[So,So];refine .cons ?_ b;obtain⟨c,f⟩:=h
   by_cases e:p.1=k
   ·nofun
   nofun
theorem KV.put(r:KV kvs vs)(k:κ)(a:bS y u):KV (iJ kvs k y) (stored vs k u):=by
 unfold iJ stored;rw[r.any k]
 by_cases e:(vs.any λb=>decide (b.1=k))=ζ
 ·rw[if_pos e,if_pos e];exact r.repl k a
 ·rw[if_neg e,if_neg e];exact jfQ r ⟨rfl,a⟩
theorem KV.length {kvs:List (κ×V)}{vs:List (κ×Sb)}(r:KV kvs vs):kvs.length=vs.length:=Vd r
end
theorem uG(r:bS (kV k) u):(bW P w).is k u=true:=by
 cases k with
 |inl i=>obtain⟨t,e⟩:=(show∃t,u=Xn i t from r);subst e;exact xg P w i t
 |inr x=>obtain⟨t,e⟩:=(show∃t,u=jdT x t from r);subst e;exact xL P w x t
theorem m8: ∀ {ks:List bj} {us:List Sb},cb (ks.map kV) us->ItemsAre (bW P w) ks us
 | [],_,r=>by rw[jaC] at r;cases r;exact .nil
 |k::ks,_,r=>by
  rw[So] at r;cases r with
  |cons h t=>exact .cons (uG h) (m8 t)
abbrev KTd(H:Hp):List (List bj×V)->List (List bj×Addr×Sb)->Prop:=Paired λp q=>p.1=q.1/\H q.2.1=p5 (.tup (p.1.map kV))/\bS p.2 q.2.2
theorem KTd.val(r:KTd H kvs xs)(k:List bj):oi (dh kvs k) ((Zm xs k).map (·.2)):=by
 induction r with
 |nil=>exact True.intro
 | @cons p q i d h t g=>
   obtain⟨a,_,f⟩:=h
   by_cases e:p.1=k
   ·have c:q.1=k:=a.symm.trans e;have b:Zm (q::d) k=p5 q.2:=by simp[Zm,Vr,c]
    rw[mC e,b];exact f
   ·grind[Zm,l7]
theorem KTd.repl{kvs:List (List bj×V)}{xs:List (List bj×Addr×Sb)}(r:KTd H kvs xs)(k:List bj)(i:bS y u):
 KTd H (kvs.map λa=>if a.1=k then(a.1,y) else a) (xs.map (putAt k u)):=by
 induction r with
 |nil=>exact .nil
 | @cons p q j d h t b=>
   rw[So,So];refine .cons ?_ b;obtain⟨c,g,f⟩:=h;unfold putAt
   by_cases e:p.1=k
   ·lia
   ·lia
theorem KTd.put(r:KTd H kvs xs)(k:List bj)(d:H b=p5 (.tup (k.map kV)))(a:bS y u):
 KTd H (iJ kvs k y) (storedH xs k b u):=by
 have e:(kvs.any λc=>decide (c.1=k))=(Zm xs k).isSome:=by
  rw[xG,(r.val k).isSome_eq,U4]
 unfold iJ storedH;rw[e]
 by_cases q:(Zm xs k).isSome=ζ
 ·rw[if_pos q,if_pos q];exact r.repl k a
 ·rw[if_neg q,if_neg q];exact jfQ r ⟨rfl,d,a⟩
theorem KTd.keeps(r:KTd H kvs xs)(a: ∀b ys,H b=p5 (.tup ys)->H' b=p5 (.tup ys)):KTd H' kvs xs:=
 Paired.mapP r λ_ _ z=>⟨z.1,a _ _ z.2.1,z.2.2⟩
section
variable {h:Heap}
theorem Lw(ok:HOk P w H h)(e:Rd H a u):b6 P w H h a u:=e.ok ok
theorem rM {kvs:List (bj×V)}(ok:HOk P w H h)(e:Rd H a (.dK kvs)):kvs.length<=SC/\(a==UT)=θ/\ ∃vs,KV kvs vs/\h.DictOf (bW P w) a vs:=
 show b6 P w H h a (.dK kvs) from Lw ok e
theorem Pj {kvs:List (bj×V)}(ok:HOk P w H h)(e:H a=p5 (.dK kvs)):kvs.length<=SC/\(a==UT)=θ/\ ∃vs,KV kvs vs/\h.DictOf (bW P w) a vs:=rM ok (.inl e)
theorem kR {ks:List bj}(ok:HOk P w H h)(e:H a=p5 (.tup (ks.map kV))):(WU (bW P w)).is h ks a:=by
 obtain⟨_,b,r,⟨o,c,d,n,f⟩,_⟩:=(show b6 P w H h a (.tup (ks.map kV)) from ok a _ e)
 exact⟨o,b.toArray,n,c,d,f,by simpa using m8 r⟩
theorem mH {kvs:List (List bj×V)}(ok:HOk P w H h)(e:Rd H a (.dT kvs)):kvs.length<=SC/\(a==UT)=θ/\
 ∃xs,KTd H kvs xs/\h.DictOfH (WU (bW P w)) a xs:=by
 obtain⟨z,y,xs,r,o,es,ep,d,i,f,g,k⟩:=(show b6 P w H h a (.dT kvs) from Lw ok e)
 refine⟨z,y,xs,r,o,es,ep,d,i,f,g,λx b=>?_,k⟩;have c: ∀ {l:List (List bj×V)} {m:List (List bj×Addr×Sb)},KTd H l m-> ∀x∈m,(WU (bW P w)).is h x.1 x.2.1:=by
  intro l m q
  induction q with
  |nil=>intro x b;nofun
  | @cons p q n s u t j=>
    intro x b;rcases SU.mp b with e|b
    ·subst e;exact kR ok (by nofun)
    ·exact j x b
 exact c r x b
theorem xm {kvs:List (List bj×V)}(ok:HOk P w H h)(e:H a=p5 (.dT kvs)):kvs.length<=SC/\(a==UT)=θ/\
 ∃xs,KTd H kvs xs/\h.DictOfH (WU (bW P w)) a xs:=mH ok (.inl e)
end
def qs(H:Hp)(a:Addr)(y:V)(r:Option V):Prop:=
 (∃kvs k,Rd H a (.dK kvs)/\y=kV k/\r=dh kvs k)\/ ∃kvs k b,Rd H a (.dT kvs)/\y=.ref b/\H b=p5 (.tup (k.map kV))/\r=dh kvs k
def u6(H:Hp)(a:Addr)(y v:V)(c:Hp):Prop:=
 (∃kvs k,H a=p5 (.dK kvs)/\y=kV k/\kvs.length<SC/\c=aV H a (.dK (iJ kvs k v)))\/
 ∃kvs k b,H a=p5 (.dT kvs)/\y=.ref b/\H b=p5 (.tup (k.map kV))/\kvs.length<SC/\c=aV H a (.dT (iJ kvs k v))
theorem qs.t{k:List bj}(e:H a=p5 (.dT kvs))(c:H b=p5 (.tup (k.map kV))):qs H a (.ref b) (dh kvs k):=.inr ⟨kvs,k,b,.inl e,rfl,c,rfl⟩
theorem u6.t{kvs:List (List bj×V)}{k:List bj}(e:H a=p5 (.dT kvs))(d:H b=p5 (.tup (k.map kV)))(c:kvs.length<SC):
 u6 H a (.ref b) v (aV H a (.dT (iJ kvs k v))):=.inr ⟨kvs,k,b,e,rfl,d,c,rfl⟩
section
variable {X:Cx}{H:Hp}{s:Sc}{o:Option V}{A:Tb}
theorem Inv.big(I:Inv X aa σ H s):UT<s.heap.objs.size:=by
 have h:Ut<s.heap.objs.size:=(I.mod.glob.keeps I.bk).lt;exact YZ () h
theorem Dl(t:A.units+1<S7)(I:Inv X aa σ H s)(g:qs H a y (p5 v))(n:bS y u)(h: ∀f s',Inv X aa σ H s'->bS v f->Q f s'):
 Sy (model X.prog X.w) A (Y7 (.ref a) u) Q E s:=by
 rcases g with⟨kvs,k,e,m,l⟩|⟨kvs,k,b,e,m,r,l⟩
 ·subst m;obtain⟨z,q,vs,d,j⟩:=rM I.hok e;obtain⟨f,hw,c⟩:=oi.some_of (v:=v) (o:=jcf vs k) (by rw[l];exact d.val k);exact wpAny_getItem_of (uG n) j.mapOf hw (h f _ (I.tok _) c)
 ·subst m;cases (show u=SQ b from n);obtain⟨z,q,xs,d,j⟩:=mH I.hok e;obtain⟨f,hw,c⟩:=oi.some_of (v:=v) (o:=(Zm xs k).map (·.2)) (by rw[l];exact d.val k);obtain⟨p,x,i⟩:=SO.mp hw;refine Yf (TV t) (kR I.hok r) j x ?_
  rw[i];exact h f _ (I.tok _) c
theorem Rj(n:A.units+1<S7)(I:Inv X aa σ H s)(g:qs H a y o)(j:bS y u)(h: ∀s',Inv X aa σ H s'->Q (.bool o.isSome) s'):
 Sy (model X.prog X.w) A (Ub .In u (.ref a)) Q E s:=by
 rcases g with⟨kvs,k,e,i,l⟩|⟨kvs,k,b,e,i,m,l⟩
 ·subst i;obtain⟨z,d,vs,c,f⟩:=rM I.hok e;refine wpAny_in_of (uG j) d f.mapOf ?_
  rw[<-(c.val k).isSome_eq,<-l];exact h _ (I.tok _)
 ·subst i;cases (show u=SQ b from j);obtain⟨z,d,xs,c,f⟩:=mH I.hok e;refine wpAny_in_heap (TV n) (kR I.hok m) d f ?_
  have q:=(c.val k).isSome_eq;rw[U4] at q;rw[<-q,<-l];exact h _ (I.tok _)
theorem Km(n:A.units+1<S7)(I:Inv X aa σ H s)(g:qs H a y o)(j:bS y u)(h: ∀s',Inv X aa σ H s'->Q (.bool (!o.isSome)) s'):
 Sy (model X.prog X.w) A (Ub .NotIn u (.ref a)) Q E s:=by
 rcases g with⟨kvs,k,e,i,l⟩|⟨kvs,k,b,e,i,m,l⟩
 ·subst i;obtain⟨z,d,vs,c,f⟩:=rM I.hok e;refine wpAny_notIn_of (uG j) d f.mapOf ?_
  rw[<-(c.val k).isSome_eq,<-l];exact h _ (I.tok _)
 ·subst i;cases (show u=SQ b from j);obtain⟨z,d,xs,c,f⟩:=mH I.hok e;refine wpAny_notIn_heap (TV n) (kR I.hok m) d f ?_
  have q:=(c.val k).isSome_eq;rw[U4] at q;rw[<-q,<-l];exact h _ (I.tok _)
theorem u0 {h':Heap}{t':Nat}(I:Inv X aa σ H s)(h:ME (H a))(f:S8 a s.heap h')(d: ∃q,h'.get? a=p5 q)(c:b6 X.prog X.w (aV H a ob) h' a ob):
 Inv X aa σ (aV H a ob) {s with heap:=h',toks:=t'}:=
 I.write (x:=a) (e:=a) h (.inl rfl) (λb q g z=>(f.2 b g).trans z) d c
theorem LU{h':Heap}{kvs:List (bj×V)}(z:kvs.length<=SC)(d:(a==UT)=θ)(b:KV kvs vs)(c:h'.DictOf (bW P w) a vs):
 b6 P w H' h' a (.dK kvs):=⟨z,d,vs,b,c⟩
theorem Dc(K:A.units+1<S7)(I:Inv X aa σ H s)(g:u6 H a y v H')(D:bS y u)(C:bS v r)(h: ∀s',Inv X aa σ H' s'->Q Unit.unit s'):
 Sy (model X.prog X.w) A (setItem (.ref a) u r) Q E s:=by
 rcases g with⟨kvs,k,e,p,l,n⟩|⟨kvs,k,b,e,p,x,l,n⟩
 ·subst p n;obtain⟨z,t,vs,d,o⟩:=Pj I.hok e;have hz:vs.length<=sizeLine:=by rw[<-d.length];exact z
  have m:(iJ kvs k v).length<=sizeLine:=by have:=jC kvs k v;lia
  refine wpAny_setItem_pairs (hsz:=hz) (uG D) o λh' f j=>h _ ?_
  have G: ∃q,h'.get? a=p5 q:=let⟨q,_,_,i,_⟩:=f;⟨q,i⟩
  exact u0 I (by rw[e];exact True.intro) j G (LU m t (d.put k C) f)
 ·subst p n;cases (show u=SQ b from D);obtain⟨z,t,xs,d,o⟩:=xm I.hok e;have hz:xs.length<=sizeLine:=by grind[Vd]
  have m:(iJ kvs k v).length<=sizeLine:=by have:=jC kvs k v;lia
  refine wpAny_setItem_heap (hsz:=hz) (TV K) (kR I.hok x) o λh' f j=>h _ ?_
  obtain⟨q,es,ep,i,M,L,F,_,J⟩:=f;refine u0 I (by rw[e];exact True.intro) j ⟨q,i⟩ ⟨m,t,_,(d.put k x C).keeps λc ys B=>?_,q,es,ep,i,M,L,F,J⟩;rw[az (K8 B e (λz=>nomatch z))];exact B
end
def zM(i:Expr):Prop:= ∀ov a,ZF i θ ov a=operate [ov,a] (Y7 ov a)
theorem wI {prog:SS}{w:Tf}{A:Tb}{E:Sb->Sc->Prop}{s:Sc}{env:Env}{value slice:Expr}{pos:Pos}{T id:String}{Q:Sb->Sc->Prop}
 (hl:typeLookup (.type T) "__getitem__"=pure (p5 (.builtin id))) (hs:zM slice)
 (h:Sy (model prog w) A (eval value env) (λo s₁=>Sy (model prog w) A (eval slice env) (λi s₂=>s₂.TypeIs o T/\Sy (model prog w) A (Y7 o i) Q E s₂) E s₁) E s):
 Sy (model prog w) A (eval (.Subscript value slice pos) env) Q E s:=by
 refine jcA (Tl h (λo s₁ h₁=>Tl h₁ (λi s₂ h₂=>?_) λ_ _ x=>x) λ_ _ x=>x);obtain⟨hT,h₂⟩:=h₂;unfold Z1;refine R8 ?_
 rw[getitemInPython_of_ne hT.not_modules];refine R8 (XF hT hl ?_);have fin:Sy (model prog w) A (ZF slice θ o i) (λr s₃=>Sy (model prog w) A (letTemporaryGo value o r>>=λ_=>pure r) Q E s₃) E s₂:=by
  rw[hs o i];exact wpAny_operating (Tl h₂ (λr s₃ h₃=>R8 (wpAny_letTemporaryGo (Sa h₃))) λ_ _ x=>x)
 first
  |exact Sa (R8 fin)
  |exact R8 (Sa (R8 fin))
  |exact R8 fin
theorem xY{s:Sc}(I:Inv X aa σ H s)(g:qs H a y o):s.TypeIs (.ref a) "dict":=by
 rcases g with⟨kvs,k,e,_,_⟩|⟨kvs,k,b,e,_,_,_⟩
 ·obtain⟨_,_,vs,_,c⟩:=rM I.hok e;exact c.typeIs
 ·obtain⟨_,_,xs,_,c⟩:=mH I.hok e;exact c.typeIs
def Oq(d ty:TE):TE:=λσ H Q=>d σ H λx c=>ty σ c λy b=> ∃a v,x=.ref a/\qs b a y (p5 v)/\Q v b
def Q9(ty d:TE):TE:=λσ H Q=>ty σ H λy c=>d σ c λx b=> ∃a o,x=.ref a/\qs b a y o/\Q (.bl o.isSome) b
def IL(ty d:TE):TE:=λσ H Q=>ty σ H λy c=>d σ c λx b=> ∃a o,x=.ref a/\qs b a y o/\Q (.bl (!o.isSome)) b
def Om(g ty e:TE):TS:=λD σ H=>e σ H λv f=>g σ f λx d=>ty σ d λy c=> ∃a b,x=.ref a/\u6 c a y v b/\D.nx σ b
section
variable {X:Cx}{pos:Pos}
theorem Id(l:X.A.units+1<S7)(B:PE X o td)(p:PE X i ty)(k:zM i):PE X (.Subscript o i pos) (Oq td ty):=by
 intro e s σ H Q I h;refine wI WC.lookup k (bC (B e s σ H _ I h) λu j ⟨x,r,m,w,t⟩=>bC (p e j σ r _ m t) λE G c=>?_);obtain⟨y,z,d,C,a,v,n,g,f⟩:=c;subst n;obtain rfl:u=SQ a:=w;exact⟨xY d g,Dl l d g C λF D q b=>⟨v,z,q,b,f⟩⟩
theorem MS(f:X.A.units+1<S7)(m:PE X i ty)(v:PE X o td):PC X .In i o (Q9 ty td):=by
 intro c s σ H Q I h;refine bC (m c s σ H _ I h) λB e ⟨y,p,j,w,q⟩=>bC (v c e σ p _ j q) λu C b=>?_
 obtain⟨x,r,l,t,a,ov,k,g,d⟩:=b;subst k;obtain rfl:u=SQ a:=t;exact Rj f l g w λz n=>⟨.bl ov.isSome,r,n,rfl,d⟩
theorem DM(f:X.A.units+1<S7)(m:PE X i ty)(v:PE X o td):PC X .NotIn i o (IL ty td):=by
 intro c s σ H Q I h;refine bC (m c s σ H _ I h) λB e ⟨y,p,j,w,q⟩=>bC (v c e σ p _ j q) λu C b=>?_
 obtain⟨x,r,l,t,a,ov,k,g,d⟩:=b;subst k;obtain rfl:u=SQ a:=t;exact Km f l g w λz n=>⟨.bl (!ov.isSome),r,n,rfl,d⟩
theorem Iy(w:X.A.units+1<S7)(q:PE X o td)(E:PE X i ty)(hv:PE X value tv)(e:UD value (p5 (.Subscript o i pos')) pos.line X.env=pure θ):
 PS X (.Assign [.Subscript o i pos'] value pos) (Om td ty tv):=by
 intro b s σ H D I h;refine wpAny_Assign_Subscript (bC (hv b s σ H _ I h) λr d ⟨v,l,f,B,m⟩=>bC (q b d σ l _ f m) λu p ⟨x,G,C,n,t⟩=>bC (E b p σ G _ C t) λN K ⟨y,M,F,J,a,z,j,g,k⟩=>?_) e;subst j;obtain rfl:u=SQ a:=n;exact Dc w F g J B λL c=>⟨σ,z,c,k⟩
end
theorem Gs(h:Heap)(a:UT<h.objs.size):b6 P w H (h.push {cls:=.type "dict",data:=.dict #[]}) h.objs.size (.dT []):=
 ⟨Uv _,beq_eq_false_iff_ne.mpr (S9 (SW a)),[],.nil,_, #[],0,Sj _ rfl,⟨rfl,rfl,rfl⟩,rfl,rfl,Wq⟩
def MJ:TE:=λ_ H Q=> ∀p,H p=ξ->Q (.ref p) (aV H p (.dT []))
section
theorem Hy:PE X (.Dict [] [] pos) MJ:=λb s σ H Q I h=>
 wpAny_Dict_empty ⟨.ref s.heap.objs.size,_,I.laid (a:=s.heap.objs.size) (o:=.dT []) (t':=s.toks) (λ_ _ q=>Sd _ q) (Sn _) (Gs s.heap I.big),rfl,h _ (I.hok.fresh (Sn _))⟩
end
structure M2(X:Cx)(o:Expr)(m:Str)(apos:Pos)(e f:Expr)(cpos:Pos):Prop where
 base:Ve o m X.env (eval o X.env)=eval o X.env
 few:((Ue cpos (Sv [e,f] X.env)).all (λx=> !x.1)&&(XA cpos (VW [] X.env)).all (λx=>x.1.isSome)
  &&χ (([e,f]:List Expr).length+([]:List Vv).length+(if([]:List Vv).isEmpty then 0 else 1)<30))=ζ
 line:(apos.endLine==cpos.line)=ζ
 trees:Ue cpos (Sv [e,f] X.env)=[(θ,eval e X.env),(θ,eval f X.env)]
def Qw(H:Hp)(a:Addr):Prop:=(∃kvs,Rd H a (.dK kvs))\/ ∃kvs,Rd H a (.dT kvs)
theorem GJ{s:Sc}(I:Inv X aa σ H s)(d:Qw H a):
 s.TypeIs (.ref a) "dict"/\(∀b,SQ a=.ref b-> ∃ob,s.heap.get? b=p5 ob/\ob.dict=ξ)/\(a==UT)=false:=by
 rcases d with⟨kvs,e⟩|⟨kvs,e⟩
 ·obtain⟨_,g,vs,_,c⟩:=rM I.hok e;refine⟨c.typeIs,λb q=>?_,g⟩;cases q;obtain⟨ob,_,_,f,h,_⟩:=c;exact⟨ob,f,h.2.1⟩
 ·obtain⟨_,g,xs,_,c⟩:=mH I.hok e;refine⟨c.typeIs,λb q=>?_,g⟩;cases q;obtain⟨ob,_,_,f,h,_⟩:=c;exact⟨ob,f,h.2.1⟩
section
variable {X:Cx}{o:Option V}{A:Tb}
theorem Mc(t:A.units+1<S7)(I:Inv X aa σ H s)(g:qs H a y o)(p:bS y u)(m:bS d r)(h: ∀n s',Inv X aa σ H s'->bS (o.getD d) n->Q n s'):
 Sy (model X.prog X.w) A (call (.builtin "dict.get") [.ref a,u,r]) Q E s:=by
 rcases g with⟨kvs,k,e,j,l⟩|⟨kvs,k,b,e,j,q,l⟩
 ·subst j;obtain⟨z,i,vs,c,f⟩:=rM I.hok e;refine jaR Xi f.typeIs Zg (YV _ _ _) (meets_dict_get_default (bW X.prog X.w) a (uG p) i r) ⟨_,f.mapOf,h _ _ (I.tok _) ?_⟩;rw[l];exact(c.val k).getD m
 ·subst j;cases (show u=SQ b from p);obtain⟨z,i,xs,c,f⟩:=mH I.hok e;refine jaR Xi f.typeIs Zg (YV _ _ _) (meetsH_dict_get_default (WU (bW X.prog X.w)) a b i r) ⟨TV t,k,xs,kR I.hok q,f,h _ _ (I.tok _) ?_⟩;rw[l];exact(c.val k).getD m
end
def Nb(f ty e:TE):TE:=λσ H Q=>f σ H λx c=> ∃a,x=.ref a/\Qw c a/\ty σ c λy d=>e σ d λz b=> ∃o,qs b a y o/\Q (o.getD z) b
section
variable {X:Cx}{apos:Pos}
theorem FM(E:X.A.units+1<S7)(C:PE X o td)(r:PE X e ty)(N:PE X f tx)(m:M2 X o "get" apos e f cpos):PE X (.Call (.Attribute o "get" apos) [e,f] [] cpos) (Nb td ty tx):=by
 intro b s σ H Q I h;refine jaS m.base m.few m.line YW Xi PySem.F.type_dict_get (bC (C b s σ H _ I h) λu l c=>?_);obtain⟨x,t,j,w,a,n,d,v⟩:=c;subst n;obtain rfl:u=SQ a:=w;obtain⟨K,L,_⟩:=GJ j d;refine⟨K,L,?_⟩
 rw[m.trees];refine V0 rfl (Wo (VZ (bC (r b l σ t _ j v) λT B ⟨y,O,J,P,D⟩=>
  VZ (bC (N b B σ O _ J D) λfv R ⟨z,p,M,G,ov,g,q⟩=>Yq ?_))))
 exact Mc E M g P G λU S k i=>⟨_,p,k,i,q⟩
end
end
end Lake
namespace PySem
noncomputable section
open Sem (wp)
end
end PySem
namespace Lake
noncomputable section
open PySem PySem.Spec PyProof.Rows
end
end Lake
namespace PySem
noncomputable section
end
end PySem
namespace Lake
noncomputable section
open PySem PySem.Spec PyProof.Rows
def Lo(K:Sf):R2:=λx y H Q=> ∃a b xs ys,x=.ref a/\y=.ref b/\SqT K H a xs/\SqT K H b ys/\xs.length+ys.length<=SC/\
 (xs=[]->Q (.ref b) H)/\(xs≠[]->ys=[]->Q (.ref a) H)/\(xs≠[]->ys≠[]-> ∀p,H p=ξ->Q (.ref p) (aV H p (.tup (xs++ys))))
section
variable {X:Cx}{a:Expr}
theorem Ie:kK X (U9 .Add) (Lo X.K):=by
 intro w s σ H x y v u Q I n o h;obtain⟨a,b,xs,ys,i,l,f,k,hz,A,B,p⟩:=h
 by_cases c:xs=[]
 ·subst i l;cases n;cases o;obtain⟨d,j,r,_⟩:=I.tuple f;obtain⟨g,t,q,_⟩:=I.tuple k;obtain⟨m,F⟩:=I.fr;have e:d=[]:=j.nil_iff.mpr c;exact add_tuples F News.nil r q (λ_=>⟨.ref b,H,I,rfl,A c⟩) (λz=>absurd e z) (λz=>absurd e z) (by rw[<-j.length,<-t.length];exact hz)
 ·exact Jc w s σ H x y v u Q I n o ⟨a,b,xs,ys,i,l,f,k,c,hz,B c,p c⟩
def j0:D->D->Option D
 | .tup xs,.tup ys=>if xs.length+ys.length<=SC then p5 (.tup (xs++ys)) else ξ
 |_,_=>ξ
theorem JG {K:Sf}:rR K .s (Lo K) j0:=by
 intro H hid v u x y d Q n h m l q;unfold j0 at h;split at h
 ·split at h
  ·rename_i k
   cases h;obtain⟨a,xs,rfl,i,g,e⟩:=m.tup;obtain⟨b,ys,rfl,j,o,c⟩:=l.tup;refine⟨a,b,xs,ys,rfl,rfl,g,o,by rw[e.length,c.length];exact k,λz=>?_,λ_ z=>?_,λ_ z p f=>?_⟩
   ·subst z;cases e;exact q _ H (ab.refl _) (.tup j c)
   ·subst z;cases c;refine q _ H (ab.refl _) ?_
    rw[TZ];exact .tup i e
   ·exact q _ _ (aM f _) (h9 f (n p f) (e.append c))
  nofun
 nofun
theorem Cz(e:DP X c k1 a f)(d:DP X c k2 b g):DP X c .s (.BinOp a .Add b pos) (ar j0 f g):=oj Ie JG e d
def KJ:D->D->Option D
 | .tup xs,.tup ys=>(b9 xs).bind λns=>(b9 ys).map λa=>.bl (HT.lexLt ns a)
 |_,_=>ξ
theorem iY {K:Sf}: ∀ {xs:List V} {ns:List Int},Reps K F xs (ns.map D.int)->xs=ns.map V.int
 |_,[],h=>by cases h;rfl
 |_,t::c,h=>by
  cases h with
  |cons a b=>cases a;rw[iY b];rfl
theorem LY {K:Sf}:rR K .s (O9 K) KJ:=by
 intro H hid v u x y d Q t h k j q;unfold KJ at h;split at h
 ·rename_i xs ys
  cases e1:b9 xs with
  |none=>nofun
  |some ns=>
   cases e2:b9 ys with
   |none=>nofun
   |some g=>
    rw[e1,e2] at h;cases h;obtain⟨a,i,rfl,p,f,e⟩:=k.tup;obtain⟨b,o,rfl,r,l,c⟩:=j.tup;rw[cJ e1] at e;rw[cJ e2] at c;have n:=iY e;have m:=iY c;subst n m;exact⟨a,b,ns,g,rfl,rfl,f,l,q _ H (ab.refl _) .bl⟩
 nofun
end
section
variable {X:Cx}{i2:Expr}{scope:U8}{spos:Pos}{N':List Str}
theorem Eu(i:Nat)(t:X.calm=ζ)(hN:X.N.Nodup)(n1:Nat)(hT1:iB X.N.length g1)(hU1:yV n1 g1)(W:iB n1 g2)(hi:Ks X c t1 i1 gi1)
 (hg1: ∀C h g j,wW (aE X N' scope C h g j) c t1 g1) (R: ∀C h g j,w6 (aE X N' scope C h g j) c ifs1 p1) (hi2: ∀C h g j,DIp (aE X N' scope C h g j) c t2 i2 gi2)
 (hg2: ∀C h g j,wW (aE X N' scope C h g j) c t2 g2) (hp2: ∀C h g j,w6 (aE X N' scope C h g j) c ifs2 p2) (he: ∀C h g j,DP (aE X N' scope C h g j) c .s elt f)
 (hsw:UD (.ListComp elt [⟨t1,i1,ifs1,0⟩,⟨t2,i2,ifs2,0⟩] scope pos) (p5 (.Name y py)) spos.line X.env=pure ζ) (hyi:X.N[i]? =p5 y) (hy:X.env.scope.names.lookup y=p5 .local)
 (hk:scope.kind=.function) (U:BC scope X.env.scope=ζ) (hn:BP X.N N' scope=ζ) (hm:N'.length-X.N.length=m) (hn1:X.N.length<=n1) (G: ∀x,TH i1 X.env x=pure x) (B: ∀C h g j,∀x,TH i2 (aE X N' scope C h g j).env x=pure x) (ρ:aC):
 PS X (.Assign [.Name y py] (.ListComp elt [⟨t1,i1,ifs1,0⟩,⟨t2,i2,ifs2,0⟩] scope pos) spos) (IB (λσ H Q=> ∃hid,Me X.K c hid .n (mN m gi1 g1 p1 gi2 g2 p2 f) ρ σ H Q) (AQ i)):=by
 intro O s σ H E I L;obtain⟨hid,sr,d,hd,q⟩:=L;obtain⟨ds,ys,e1,hc,hz,rfl⟩:=tR hd;rw[Zs _ _ _ _ hsw];refine R8 (UW (R8 ?_));show Sy _ X.A (do let _ <-comprehension (.ListComp elt [⟨t1,i1,ifs1,0⟩,⟨t2,i2,ifs2,0⟩] scope pos) scope X.env _ (jaJ []) false (eval i1 X.env) (some (VS (.Name y py) X.env))) _ _ s;refine R8 (Tl (VD (use:=p5 (VS (.Name y py) X.env)) (Q:=λ_ s'=>SP X O E .next s') rfl G (eB λx Y=>I.ok.has x (g9 U x Y)) hk (jO U) ?_) (λ_ s' L=>Sa (Sa L)) λ_ _ e=>e);refine bC (hi hid ρ O s σ H (λJ l=>ab H l/\NI X.K l (vw l hid) J ds) I ⟨sr,ds,e1,λJ l s1 io=>⟨s1,io⟩⟩) λv s1 h1=>bC h1 λitv s2 h2=>?_
 obtain⟨it,fp,tn,J,H2,rfl,u,T,st2,M,sm,io⟩:=h2;refine oJ (RR:=λacc C=>jcC (model X.prog X.w) X.A X.xe (p5 (VS (.Name y py) X.env)) (λ_ s'=>SP X O E .next s') acc C) t hk U hn hm hT1 hU1 hn1 W B hg1 R hi2 hg2 hp2 he u (sr.ext sm) T st2 M io hz hc ?_
 intro D C s' l xs hDge k hDC hD sm' Y rp ⟨mm,P⟩ hC' hos r hok S;have I3:Inv X O σ l s':=u.call' (ch:=fp) hos S hok r λb F=>⟨(M b F).2.2.2.1,(M b F).2.1,(M b F).2.2.2.2.1,(M b F).2.2.2.2.2⟩
 have fin:=q _ l (sm.trans sm') ⟨D,xs,ys,rfl,rfl,sm.free hD,Y,rp⟩;have p: ∀b o,s2.heap.get? b=p5 o->b≠C:=λb o e z=>by subst z;exact absurd (Sw e) (V1.mpr k)
 have hLC:C≠X.env.locals:=λz=>by
  have:=u.lt;rw[<-z] at this;exact absurd this (V1.mpr k)
 show Sy _ X.A (VS (.Name y py) X.env (.ref D)) _ _ s';refine Ym (nN (v:=.ref D) I3 hN hyi (.inl hy) rfl (λs'' I4 F=>?_) (.inr hy));obtain⟨a,hsb,V⟩:=F;have hCa:C≠a:=by
  rcases V with rfl|V
  ·omega
  ·obtain⟨w',o,ho,_⟩:=u.cell y a V;exact λz=>p a o ho z.symm
 refine⟨mm,P.sameBut hsb hCa,λh3 Z=>⟨_,l,?_,fin⟩⟩;refine I4.turned (t':=s''.toks) (it:=C) (λb o nb e=>(Z.2 b nb).trans e) hC' hLC (.inr (Tk u.sz k)) (λx c' e z=>?_) (λq L z=>?_)
 ·obtain⟨w',o,ho,_⟩:=u.cell x c' e;exact p c' o ho z
 ·exact p q.1 q.2 (u.pin q L).1 z
theorem FR(i:Nat)(e:X.calm=ζ)(J:X.N.Nodup)(j:Nat)(G:iB X.N.length g1)(B:yV j g1)(n:iB j g2)(P:Ks X c t1 i1 gi1)
 (A: ∀C b a d,wW (aE X N' scope C b a d) c t1 g1) (l: ∀C b a d,w6 (aE X N' scope C b a d) c ifs1 p1) (t: ∀C b a d,DIp (aE X N' scope C b a d) c t2 i2 gi2)
 (w: ∀C b a d,wW (aE X N' scope C b a d) c t2 g2) (o: ∀C b a d,w6 (aE X N' scope C b a d) c ifs2 p2) (L: ∀C b a d,DP (aE X N' scope C b a d) c .s elt f)
 (F:UD (.ListComp elt [⟨t1,i1,ifs1,0⟩,⟨t2,i2,ifs2,0⟩] scope pos) (p5 (.Name y py)) spos.line X.env=pure true:=by rfl) (u:X.N[i]? =p5 y:=by rfl) (Q:X.env.scope.names.lookup y=p5 .local:=by rfl)
 (R:scope.kind=.function:=by rfl) (K:BC scope X.env.scope=true:=by kernel_rfl) (M:BP X.N N' scope=true:=by kernel_rfl) (O:N'.length-X.N.length=m:=by rfl) (E:X.N.length<=j:=by exact Se rfl) (h: ∀x,TH i1 X.env x=pure x:=by intro _;rfl) (g: ∀C b a d,∀x,TH i2 (aE X N' scope C b a d).env x=pure x:=by intros;rfl):
 DS X c k (.Assign [.Name y py] (.ListComp elt [⟨t1,i1,ifs1,0⟩,⟨t2,i2,ifs2,0⟩] scope pos) spos) (dW i (mN m gi1 g1 p1 gi2 g2 p2 f)):=λρ=>PS.imp (Eu i e J j G B n P A l t w o L F u Q R K M O E h g ρ) λD σ H p=>by
 obtain⟨hid,I,q⟩:=p;unfold dW at q;cases e1:mN m gi1 g1 p1 gi2 g2 p2 f ρ with
 |none=>rw[e1] at q;exact q.elim
 |some z=>
  rw[e1] at q;exact⟨hid,I,z,e1,λv S s r=>Ji (I.post s r ()) q⟩
end
section
variable {K:Sf}{c:Ct}{ρ:aC}{σ:St}
theorem SR.setD {b:Ob}(h:SR K c hid ρ σ H)(u:so K c hid H a b)(no: ∀i:Nat,Ow ρ[i]? ->σ[i]? ≠p5 (p5 (.ref a)))(i:Nat):
 SR K c hid (ρ.set i (.ob b)) (σ.set i (p5 (.ref a))) H:=by
 refine⟨h.tr,h.ht,h.h0,h.kp,h.t0,h.c0,h.m0,by simp[h.len],λj s q=>?_,λj l z n t m r o=>?_⟩
 ·by_cases e:j=i
  ·subst e;have lt:j<ρ.length:=by
    have:=(Sz.mp q).1;nofun
   rw[SX lt] at q;cases q;exact⟨a,SX (by rw[h.len];exact lt),u⟩
  ·rw[SD (S9 e)] at q;have w:=h.sl j s q;have es:(σ.set i (p5 (V.ref a)))[j]? =σ[j]? :=SD (S9 e);cases s with
   |no=>trivial
   |v d=>obtain⟨x,f,g⟩:=w;exact⟨x,es.trans f,g⟩
   |own ds=>obtain⟨a,xs,f,g⟩:=w;exact⟨a,xs,es.trans f,g⟩
   |arg ds=>obtain⟨a,xs,f,g⟩:=w;exact⟨a,xs,es.trans f,g⟩
   |ob b=>obtain⟨a,f,g⟩:=w;exact⟨a,es.trans f,g⟩
 ·by_cases p:j=i
  ·subst p;have k:l≠j:=λe=>n e.symm
   rw[SD (S9 k)] at m o;grind
  ·rw[SD (S9 p)] at t r
   by_cases k:l=i
   ·subst k
    by_cases lt:l<σ.length
    ·nofun
    nofun
   ·rw[SD (S9 k)] at m o;exact h.ap j l z n t m r o
theorem so.kind{hid:bv}{b:Ob}(h:so K c hid H a b)(o:vV b): ∃u,H a=p5 u/\ ∀p v,u≠ .nst p v:=by
 cases b with
 |nst us=>obtain⟨_,_,e,_⟩:=h;nofun
 |dQ kvs=>exact o.elim
 |frs d=>exact o.elim
 |dR kvs=>exact o.elim
 |dRs l=>exact o.elim
 |exc x n=>exact o.elim
 |dK kvs=>obtain⟨_,_,e,_⟩:=h;nofun
 |dT kvs=>obtain⟨_,_,e,_⟩:=h;nofun
 |set ds=>obtain⟨_,_,e,_⟩:=h;nofun
 |old d=>exact o.elim
 |jnk=>obtain⟨_,_,e⟩:=h;nofun
 |tset ks=>obtain⟨_,_,e,_⟩:=h;grind
 |dF kvs=>obtain⟨_,_,_,e,_⟩:=h;nofun
 |dN kvs=>obtain⟨_,_,_,e,_⟩:=h;nofun
theorem SR.putO{b b':Ob}{o':HO}(h:SR K c hid ρ σ H)(L:ρ[i]? =p5 (.ob b))(D:vV b)(W:vV b')(I:σ[i]? =p5 (p5 (.ref a)))(U:At H a x)(g:hid x=ζ)(B:c.H₀ x=ξ)
 (nt: ∀xs,o'≠ .tup xs) (O:so K c hid (aV H x o') a b'):SR K c hid (ρ.set i (.ob b')) σ (aV H x o'):=by
 have lt:i<ρ.length:=(Sz.mp L).1;have R:vw (aV H x o') hid=vw H hid:=cm g;have C: ∀b o,H b=p5 o-> ∃r,(aV H x o') b=p5 r:=λb o q=>by
  grind[aA,az]
 have M:Ow ρ[i]? :=by rw[L];exact D
 obtain⟨a2,F,T⟩:=h.sl i _ L;rw[I] at F;cases F;obtain⟨w,kw,S⟩:=T.kind D;have N: ∀(j:Nat) (s:Sl) (f y:Addr) (E:HO),j≠i->ρ[j]? =p5 s->Ow (p5 s)->σ[j]? =p5 (p5 (.ref f))->H f=p5 E->(∀p v,E≠ .nst p v)->At H f y->y≠x:=λj s f y E n e o q hw Q G=>by
  have V:f≠a:=λz=>by subst z;exact h.ap j i f n (by nofun) M q I
  rcases U with rfl|⟨u,hu⟩
  ·exact G.ne V kw S
  ·intro z;subst z;rcases G with rfl|⟨u',X⟩
   ·nofun
   nofun
 have t: ∀j:Nat,Ow (ρ.set i (.ob b'))[j]? ->Ow ρ[j]? :=λj o=>by
  by_cases e:j=i
  ·nofun
  ·rw[SD (S9 e)] at o;exact o
 refine⟨λb P=>let⟨o,q⟩:=h.tr b P;C b o q,λb xs P q=>by
  by_cases e:b=x
  ·grind[aA]
  ·rw[az e] at q;exact h.ht b xs P q,h.h0,λb o q m=>?_,λb o q=>let⟨r,q2⟩:=h.t0 b o q;C b r q2,h.c0,h.m0,by simp[h.len],λj s e=>?_,λj l z n Y r=>h.ap j l z n (t j Y) (t l r)⟩
 ·rw[az (bV q B)];exact h.kp b o q m
 ·by_cases A:j=i
  ·subst A;rw[SX lt] at e;cases e;exact⟨a,I,O⟩
  ·rw[SD (S9 A)] at e;have z:=h.sl j s e;cases s with
   |no=>trivial
   |v d=>obtain⟨x,k,g⟩:=z;exact⟨x,k,by nofun⟩
   |own ds=>obtain⟨f,xs,k,g,B,J,Z⟩:=z;exact⟨f,xs,k,by rw[az (N j _ f f _ A e trivial k g nofun (.inl rfl))];exact g,B,J,by nofun⟩
   |arg ds=>obtain⟨f,xs,k,g,B,J,Z⟩:=z;exact⟨f,xs,k,by rw[az (N j _ f f _ A e trivial k g nofun (.inl rfl))];exact g,B,J,by nofun⟩
   |ob b=>
    obtain⟨f,k,g⟩:=z
    exact⟨f,k,g.mono (λD y G o q=>by
     obtain⟨E,hw,Q⟩:=g.kind D
     rw[az (N j _ f y E A e D k hw Q G)];exact q) (by rw[R];exact ab.refl _) λ_ _ _ q=>q⟩
end
open PySem PySem.W PySem.Spec PyProof.Rows
section
variable {A:Tb}
theorem AD(k:KdlSrc prog w T r d n P OK)(u:A.handled=ξ)(i:OK s.heap)(v:n<=SC)
 (q: ∀(g:Heap) (tk:Nat) (us:Array Sb),(∀b o,s.heap.get? b=p5 o->g.get? b=p5 o)->s.heap.objs.size<g.objs.size->ItemsOf P us n->R us.toList {s with heap:=g,toks:=tk}):Sy (model prog w) A (collect (.ref r)) R E s:=by
 obtain⟨x,B⟩:=k.there _ i;unfold collect;refine R8 (ZH (UM Zt ?_));rw[UE Zu _];show Sy _ A.in1 (jaJ []>>=λz=>ZD (.builtin "list.__iadd__" ⟨[z,.ref r],[]⟩)) _ _ s;refine R8 (TR (Sa ⟨YG W4 _,UM jaN ?_⟩));rw[UE W4 _];show Sy _ A.in1 (X2 (.ref s.heap.objs.size) (.ref r) (.ref s.heap.objs.size)) _ _ _;have j: ∀(g:Heap) (tk:Nat) (us:Array Sb) (m:Nat),(∀b o,s.heap.get? b=p5 o->g.get? b=p5 o)->g.get? s.heap.objs.size=p5 {cls:=.type "list",dict:=ξ,data:=.seq us m,slots:= #[]}->ItemsOf P us n->
  Sy (model prog w) A (do
   match (<-load s.heap.objs.size).data with
    |Data.seq xs _=>pure xs.toList
    |_=>UL "internal:collect") R E {s with heap:=g,toks:=tk}:=λg tk us m l a p=>R8 (jct a (Sa (q g tk us l (Sw a) p)))
 have ext:=kdl_extend (A:=A) (s:={s with heap:=s.heap.push {cls:=.type "list",data:=.seq ([]:List Sb).toArray}})
  (R:=λz t=> ∃(g:Heap) (tk:Nat) (us:Array Sb) (m:Nat),z=.ok (.ret (.ref s.heap.objs.size))/\t={s with heap:=g,toks:=tk}/\(∀b o,s.heap.get? b=p5 o->g.get? b=p5 o)/\g.get? s.heap.objs.size=p5 {cls:=.type "list",dict:=ξ,data:=.seq us m,slots:= #[]}/\ItemsOf P us n)
  k u (k.keep _ _ i λb _ o e=>Sd _ e) s.heap.objs.size (Uc x) (Uc B) (.ref s.heap.objs.size) 0 (Sj _ rfl)
  (λg tk us m l a p=>⟨g,tk,us,m,rfl,rfl,λb o e=>l b o (SW (Sw e)) (Sd _ e),a,p⟩) v
 refine Tl ext (λz t h=>?_) λz t h=>by obtain⟨_,_,_,_,e,_⟩:=h;cases e
 cases z with
 |done f=>obtain⟨g,tk,us,m,e,rfl,l,a,p⟩:=h;cases e;exact j g tk us m l a p
 |again c=>exact⟨h.1,Vc h.2 λz t' y=>by obtain⟨g,tk,us,m,rfl,rfl,l,a,p⟩:=y;exact j g tk us m l a p⟩
end
section
theorem tj {K:Sf}: ∀a:List Int,Reps K F (a.map V.int) (a.map D.int)
 | []=>.nil
 |m::a=>.cons .int (tj a)
end
mutual
def LF:D->Bool
 | .lst _=>θ
 | .dct _ _=>θ
 | .tup ds=>N3 ds
 | .scr ds=>N3 ds
 |_=>ζ
def N3:List D->Bool
 | []=>ζ
 |d::ds=>LF d&&N3 ds
end
def Kc(hid:bv)(H:Hp):bv:=λb=>hid b&& !vS (H b)
theorem Gc(h: ∀t,g' t=θ->g t=ζ->vS (H t)=ζ)(s:vw H g' a=p5 (.tup xs)):vw H g a=p5 (.tup xs):=by
 obtain⟨c,b⟩:=cc.mp s;refine cc.mpr ⟨?_,b⟩;cases e:g a with
 |false=>rfl
 |true=>have:=h a c e;rw[b] at this;cases this
theorem Ho {K:Sf}(h: ∀t,g' t=θ->g t=ζ->vS (H t)=ζ)(s:SqR K (vw H g') a xs):SqR K (vw H g) a xs:=by
 rcases s with⟨o,s⟩|s
 ·obtain⟨c,b⟩:=cc.mp s;refine .inl ⟨o,cc.mpr ⟨?_,b⟩⟩;cases e:g a with
  |false=>rfl
  |true=>have:=h a c e;rw[b] at this;cases this
 ·exact .inr s
mutual
theorem xi {K:Sf}(h: ∀t,g' t=θ->g t=ζ->vS (H t)=ζ): ∀ {v:V} {d:D},Rep K (vw H g') v d->LF d=ζ->Rep K (vw H g) v d
 |_,_,.non,_=>.non
 |_,_,.bl,_=>.bl
 |_,_,.int,_=>.int
 |_,_,.str,_=>.str
 |_,_,.tup s r,l=>.tup (Gc h s) (nJ h r (by grind[LF]))
 |_,_,.scr s r,l=>.scr (Ho h s) (nJ h r (by grind[LF]))
 |_,_,.lst s r,l=>by grind[LF]
 |_,_,.dct _ _ _,l=>by grind[LF]
theorem nJ {K:Sf}(h: ∀t,g' t=θ->g t=ζ->vS (H t)=ζ): ∀ {v:List V} {d:List D},Reps K (vw H g') v d->N3 d=ζ->Reps K (vw H g) v d
 |_,_,.nil,_=>.nil
 |_,_,.cons r a,l=>by
  unfold N3 at l;rw[TL] at l;exact .cons (xi h r l.1) (nJ h a l.2)
end
theorem Gw(hid:bv)(H:Hp):ab (vw H hid) (vw H (Kc hid H)):=ft λb w=>by unfold Kc at w;lia
theorem Dd {K:Sf}(r:d3 K H (vw H hid) vs ds):Reps K (vw H (Kc hid H)) vs ds:=by
 induction r with
 |nil=>exact .nil
 |cons r _ d=>
  refine .cons ?_ d;rcases r with r|⟨a,xs,es,rfl,rfl,b,c⟩
  ·exact r.mono (Gw hid H)
  ·exact .lst (cc.mpr ⟨by unfold Kc;rw[b];simp[vS],b⟩) (c.mono (Gw hid H))
theorem Gv(e: ∀b,hid b=ζ-> ∃o,H b=p5 o)(s:ab H H'): ∀t,Kc hid H t=θ->hid t=ζ->vS (H' t)=true:=λt a c=>by
 unfold Kc at a;rw[c,VE] at a;obtain⟨o,d⟩:=e t c;rw[d] at a;rw[s _ _ d];simpa using a
section
variable {X:Cx}
theorem KB{ds:List D}(h:nF n P ds=p5 d):ds.length=n/\P ds=p5 d:=by
 have h:(if ds.length=n then P ds else ξ)=p5 d:=h;lia
def Qc(f:FE):FE:=λρ=>(f ρ).bind λd=>if LF d=ζ then p5 d else ξ
theorem KK(C:Cl X.prog X.w X.K X.mg X.base j x ps (spP X.K .s n P))(I:er j X.A)
 (z:DB X c (e::es) fs) (M:Gl X x:=by rfl) (k:(x==("__debug__":Str))=false:=by decide) (D:Sv (e::es) X.env=(θ,eval e X.env)::Sv es X.env:=by rfl) (g:(Ue pos (Sv es X.env)).any (·.1)=false:=by rfl):
 DP X c .s (.Call (.Name x p) (e::es) [] pos) (Qc (am (nF n P) fs)):=by
 obtain⟨f,T,F,N,S,E⟩:=C.ex;exact λhid ρ=>PE.imp (vx F I M N S E .nil (GB (X:=X)) (z hid ρ) k D g) λσ H Q h=>by
  obtain⟨i,d,R,q⟩:=h;obtain⟨d',J,m⟩:=Si.mp R;split at m
  ·rename_i B
   cases m;obtain⟨ds,G,t⟩:=kM J;obtain⟨u,y⟩:=KB t;refine⟨i,ds,G,λvs l a O=>?_⟩;have o:=(i.ext a).tr;show spP X.K .s n P (vs++[]) l Q E0;rw[TZ];exact⟨Kc hid l,ds,⟨λb w=>o b (by unfold Kc at w;nofun),λb xs w=>(i.ext a).ht b xs (by unfold Kc at w;nofun)⟩,Dd O,u,_,y,λv L s' r=>q v L (a.trans s') (xi (Gv o s') r B)⟩
  nofun
end
theorem vF: ∀a b:List Int,aT a b=HT.lexLt a b
 | [],[]=>rfl
 | [],_::_=>rfl
 |_::_,[]=>rfl
 |x::a,y::b=>by
  rw[HT.lexLt_cons,<-vF a b];rfl
def nH(i:Nat)(ρ:aC):Option (List ((List bj)×D)):=match ρ[i]? with
 |some (.ob (.dT kvs))=>p5 kvs
 |_=>ξ
theorem fQ(h:nH i ρ=p5 kvs):ρ[i]? =p5 (.ob (.dT kvs)):=by
 unfold nH at h;grind
def cv(kvs:List ((List bj)×D))(k:List bj):Option D:=(kvs.find? λa=>decide (a.1=k)).map (·.2)
def oT(kvs:List ((List bj)×D))(k:List bj)(d:D):List ((List bj)×D):=
 if(kvs.any λa=>decide (a.1=k))=ζ then kvs.map (λa=>if a.1=k then(a.1,d) else a) else kvs++[(k,d)]
def KRt(K:Sf)(F:Hp)(us:List ((List bj)×V))(kvs:List ((List bj)×D)):Prop:=us.map (·.1)=kvs.map (·.1)/\Reps K F (us.map (·.2)) (kvs.map (·.2))
theorem KRt.inv {K:Sf}: ∀ {us:List ((List bj)×V)} {kvs:List ((List bj)×D)},KRt K F us kvs->(us=[]/\kvs=[])\/ ∃k v b d a,us=(k,v)::b/\kvs=(k,d)::a/\Rep K F v d/\KRt K F b a
 | [],[],_=>.inl ⟨rfl,rfl⟩
 | [],_::_,h=>by cases h.1
 |_::_,[],h=>by cases h.1
 |(k,v)::us,(j,d)::kvs,h=>by
  obtain⟨e,f⟩:=h;rw[So,So] at e f;injection e with c i
  cases f with
  |cons r g=>
   have c:k=j:=c;subst c;exact .inr ⟨k,v,us,d,kvs,rfl,rfl,r,i,g⟩
theorem KRt.val {K:Sf}(k:List bj): ∀ {us:List ((List bj)×V)} {kvs:List ((List bj)×D)},KRt K F us kvs->(dh us k=ξ/\cv kvs k=ξ)\/ ∃v d,dh us k=p5 v/\cv kvs k=p5 d/\Rep K F v d:=by
 intro us
 induction us with
 |nil=>
  intro kvs h;rcases h.inv with⟨_,rfl⟩|⟨_,_,_,_,_,e,_⟩
  ·exact .inl ⟨rfl,rfl⟩
  nofun
 |cons p us c=>
  intro kvs h;rcases h.inv with⟨e,_⟩|⟨f,v,b,d,a,e,rfl,r,g⟩
  ·nofun
  ·cases e;grind[cv,dh]
theorem KRt.any {K:Sf}(k:List bj){us:List ((List bj)×V)}{kvs:List ((List bj)×D)}(h:KRt K F us kvs):(us.any λa=>decide (a.1=k))=kvs.any λa=>decide (a.1=k):=by
 have b:(us.any λa=>decide (a.1=k))=(us.map (·.1)).any λx=>decide (x=k):=by rw[Wv];rfl
 have c:(kvs.any λa=>decide (a.1=k))=(kvs.map (·.1)).any λx=>decide (x=k):=by rw[Wv];rfl
 rw[b,c,h.1]
theorem KRt.cons {K:Sf}{k:List bj}(r:Rep K F v d)(h:KRt K F us kvs):KRt K F ((k,v)::us) ((k,d)::kvs):=⟨by rw[So,So,h.1],.cons r h.2⟩
theorem KRt.repl {K:Sf}(k:List bj)(r:Rep K F v d): ∀ {us:List ((List bj)×V)} {kvs:List ((List bj)×D)},KRt K F us kvs->KRt K F (us.map (λa=>if a.1=k then(a.1,v) else a)) (kvs.map (λa=>if a.1=k then(a.1,d) else a)):=by
 intro us
 induction us with
 |nil=>
  intro kvs h;rcases h.inv with⟨_,rfl⟩|⟨_,_,_,_,_,e,_⟩
  ·exact h
  nofun
 |cons p us g=>
  intro kvs h;rcases h.inv with⟨e,_⟩|⟨j,m,i,d',f,e,rfl,l,c⟩
  ·nofun
  ·cases e;rw[So,So]
   by_cases b:j=k
   ·rw[if_pos b,if_pos b];exact KRt.cons r (g c)
   ·rw[if_neg b,if_neg b];exact KRt.cons l (g c)
theorem KRt.put {K:Sf}(k:List bj)(r:Rep K F v d)(h:KRt K F us kvs):KRt K F (iJ us k v) (oT kvs k d):=by
 unfold iJ oT;rw[h.any k];split
 ·exact h.repl k r
 ·refine⟨by rw[SZ,SZ,h.1];rfl,?_⟩;rw[SZ,SZ];exact h.2.append (.cons r .nil)
theorem KRt.len {K:Sf}{us:List ((List bj)×V)}{kvs:List ((List bj)×D)}(h:KRt K F us kvs):us.length=kvs.length:=by
 have:=congrArg Uk h.1;simpa using this
section
variable {K:Sf}{c:Ct}{ρ:aC}{σ:St}
theorem SR.dictT(h:SR K c hid ρ σ H)(e:nH i ρ=p5 kvs): ∃a us,σ[i]? =p5 (p5 (.ref a))/\hid a=ζ/\c.H₀ a=ξ/\H a=p5 (.dT us)/\KRt K (vw H hid) us kvs:=by
 obtain⟨a,b,⟨g,k⟩,us,d,j,f⟩:=h.sl i _ (fQ e);exact⟨a,us,b,g,k,d,j,f⟩
theorem SR.putDT(h:SR K c hid ρ σ H)(e:nH i ρ=p5 kvs)(f:σ[i]? =p5 (p5 (.ref a)))(r:KRt K (vw H hid) us' kvs'):SR K c hid (ρ.set i (.ob (.dT kvs'))) σ (aV H a (.dT us')):=by
 obtain⟨k,us,d,b,g,j,l⟩:=h.dictT e;rw[f] at d;cases d;exact h.putO (fQ e) trivial trivial f (.inl rfl) b g nofun ⟨⟨b,g⟩,us',aA,r.1,by rw[cm b];exact r.2⟩
end
def mi:D->Option (List Int)
 | .tup ds=>b9 ds
 |_=>ξ
theorem eO{ns:List Int}(h:mi d=p5 ns):d=.tup (ns.map D.int):=by
 unfold mi at h;grind[cJ]
theorem qj {K:Sf}: ∀ {xs:List V} {ns:List Int},Reps K F xs (ns.map D.int)->xs=(ns.map Yl).map kV
 |_,[],h=>by cases h;rfl
 |_,n::ns,h=>by
  cases h with
  |cons r a=>cases r;rw[qj a];rfl
section
variable {X:Cx}{s:Sc}{A:Tb}
theorem As {ks:List bj}(I:Inv X aa σ H s)(h:SqT X.K H b (ks.map kV)):(WU (bW X.prog X.w)).is s.heap ks b:=by
 obtain⟨a,r,⟨o,c,d,n,e⟩,_⟩:=I.tuple h;exact⟨o,a.toArray,n,c,d,e,by simpa using m8 r⟩
theorem No{k:List bj}(m:A.units+1<S7)(I:Inv X aa σ H s)(e:H a=p5 (.dT kvs))(j:SqT X.K H b (k.map kV))(l:dh kvs k=p5 v)
 (h: ∀c s',Inv X aa σ H s'->bS v c->Q c s'):Sy (model X.prog X.w) A (Y7 (.ref a) (.ref b)) Q E s:=by
 obtain⟨z,q,xs,g,i⟩:=xm I.hok e;obtain⟨c,hw,d⟩:=oi.some_of (v:=v) (o:=(Zm xs k).map (·.2)) (by rw[<-l];exact g.val k);obtain⟨p,n,f⟩:=SO.mp hw;refine Yf (TV m) (As I j) i n ?_
 rw[f];exact h c _ (I.tok _) d
theorem O6{k:List bj}(i:A.units+1<S7)(I:Inv X aa σ H s)(e:H a=p5 (.dT kvs))(g:SqT X.K H b (k.map kV))
 (h: ∀s',Inv X aa σ H s'->Q (.bool (dh kvs k).isSome) s'):Sy (model X.prog X.w) A (Ub .In (.ref b) (.ref a)) Q E s:=by
 obtain⟨z,d,xs,c,f⟩:=xm I.hok e;refine wpAny_in_heap (TV i) (As I g) d f ?_
 have q:=(c.val k).isSome_eq;rw[U4] at q;rw[<-q];exact h _ (I.tok _)
end
section
variable {X:Cx}{ty:TE}
def Qo(K:Sf)(e ty:TE):TE:=λσ H Q=>e σ H λx d=>ty σ d λy c=> ∃a b kvs k v,x=.ref a/\y=.ref b/\c a=p5 (.dT kvs)/\SqT K c b (k.map kV)/\dh kvs k=p5 v/\Q v c
def QZ(K:Sf)(ty e:TE):TE:=λσ H Q=>ty σ H λy d=>e σ d λx c=> ∃a b kvs k,x=.ref a/\y=.ref b/\c a=p5 (.dT kvs)/\SqT K c b (k.map kV)/\Q (.bl (dh kvs k).isSome) c
theorem LR(r:X.A.units+1<S7)(L:PE X o td)(B:PE X i ty)(q:zM i):PE X (.Subscript o i pos) (Qo X.K td ty):=by
 intro f s σ H Q I h;refine wI WC.lookup q (bC (L f s σ H _ I h) λu m ⟨x,E,w,G,F⟩=>bC (B f m σ E _ w F) λt P d=>?_);obtain⟨y,J,e,M,a,b,kvs,k,v,z,C,g,j,n,l⟩:=d;subst z C;obtain rfl:u=SQ a:=G;obtain rfl:t=SQ b:=M;refine⟨?_,No r e g j n λO N D c=>⟨v,J,D,c,l⟩⟩;obtain⟨_,_,xs,_,p⟩:=xm e.hok g;exact p.typeIs
theorem LZ(j:X.A.units+1<S7)(q:PE X i ty)(D:PE X o td):PC X .In i o (QZ X.K ty td):=by
 intro d s σ H Q I h;refine bC (q d s σ H _ I h) λl g ⟨y,v,m,E,z⟩=>bC (D d g σ v _ m z) λu G c=>?_
 obtain⟨x,B,p,C,a,b,kvs,k,n,r,w,e,f⟩:=c;subst n r;obtain rfl:u=SQ a:=C;obtain rfl:l=SQ b:=E;exact O6 j p w e λF t=>⟨.bl (dh kvs k).isSome,B,t,rfl,f⟩
end
section
variable {X:Cx}{k:Kd}{fk:FE}{pos:Pos}
def iK(ns:List Int):List bj:=ns.map Yl
def F6(i:Nat):FS:=λρ=>.nx (ρ.set i (.ob (.dT [])))
theorem mB(i:Nat)(t:X.N.Nodup)(n:X.N[i]? =p5 x:=by rfl)(m:Ed X.env.scope x:=by first|exact TJ rfl|exact Ta rfl)(l:UD (.Dict [] [] p) (some (.Name x pos')) pos.line X.env=pure false:=by rfl)
 (r:X.fn x=ζ\/X.env.scope.names.lookup x=p5 .local:=by first|exact .inl rfl|exact .inr rfl|assumption):DS X c k (.Assign [.Name x pos'] (.Dict [] [] p) pos) (F6 i):=λρ=>PS.imp (nU t n m Hy l r) λD σ H f=>by
 obtain⟨hid,e,q⟩:=f;intro a d;have h:=aM d (.dT []);have s:=e.fresh d;refine q _ _ (bI hid a) (SR.setD (a:=a) (b:=.dT []) (e.hide h d aA) ⟨⟨cQ,e.fresh0 d⟩,[],aA,rfl,.nil⟩ (e.notOw s) i) λb o w=>?_
 obtain⟨j,g⟩:=cc.mp w;refine cc.mpr ⟨?_,h b o g⟩;unfold bI;rw[j];have:b≠a:=bV g d;simp[this]
def Hx(i:Nat)(fk:FE):FE:=λρ=>(nH i ρ).bind λkvs=>((fk ρ).bind mi).bind λk=>cv kvs (iK k)
theorem nV{ns:List Int}(h:dr X.K H' (vw H' hid) z (.tup (ns.map D.int))): ∃b,z=.ref b/\SqT X.K H' b ((iK ns).map kV):=by
 obtain⟨b,xs,rfl,_,a,c⟩:=h.tup;refine⟨b,rfl,?_⟩;rw[<-show xs=(iK ns).map kV from qj c];exact a
theorem JP(i:Nat)(I:X.A.units+1<S7)(D:DP X c k1 e fe)(w:zM e)(u:X.N[i]? =p5 y:=by rfl)(l:oe X.env.scope y:=by first|exact TJ rfl|exact Ta (TJ rfl)|exact Ta (Ta rfl))(f:(y==("__debug__":Str))=false:=by decide)
 (g:(y==("__classdict__":Str))=false:=by decide):DP X c .s (.Subscript (.Name y py) e pos) (Hx i fe):=λhid ρ=>
 PE.imp (LR I (pv i u l f g) (D hid ρ) w) λσ H Q h=>by
  obtain⟨k,d,f,q⟩:=h;obtain⟨kvs,R,f⟩:=Si.mp f;obtain⟨o,O,f⟩:=Si.mp f;obtain⟨T,E,L⟩:=Si.mp O;have P:=eO L;subst P;obtain⟨a,us,C,U,S,B,t⟩:=k.dictT R;refine⟨.ref a,C,k,_,E,λz m j x=>?_⟩;obtain⟨b,rfl,F⟩:=nV (RK.b k1 x λa n=>k.fresh n);have M:m a=p5 (.dT us):=j _ _ B;have G:KRt X.K (vw m hid) us kvs:=⟨t.1,t.2.mono (aH j)⟩
  rcases G.val (iK o) with⟨r,p⟩|⟨v,d',r,p,J⟩
  ·nofun
  ·rw[p] at f;cases f;exact⟨a,b,us,iK o,v,rfl,rfl,M,F,r,q _ m j J⟩
def Mb(i:Nat)(fk:FE):FT:=λρ=>(nH i ρ).bind λkvs=>((fk ρ).bind mi).map λk=>(cv kvs (iK k)).isSome
theorem JJ(i:Nat)(D:X.A.units+1<S7)(w:DP X c k1 e fe)(r:X.N[i]? =p5 y:=by rfl)(k:oe X.env.scope y:=by first|exact TJ rfl|exact Ta (TJ rfl)|exact Ta (Ta rfl))(f:(y==("__debug__":Str))=false:=by decide)
 (g:(y==("__classdict__":Str))=false:=by decide) (E:UG .In (.Name y py)=false:=by rfl):DT X c (.Compare e [.In] [.Name y py] pos) (Mb i fe):=λhid ρ=>
 PT.imp (wB (LZ D (w hid ρ) (pv i r k f g)) E) λσ H Q h=>by
  obtain⟨j,d,f,q⟩:=h;obtain⟨kvs,M,f⟩:=Si.mp f;obtain⟨m,I,rfl⟩:=SO.mp f;obtain⟨S,x,F⟩:=Si.mp I;have J:=eO F;subst J;obtain⟨a,us,u,T,P,t,o⟩:=j.dictT M;refine⟨j,_,x,λz p l s=>⟨.ref a,u,?_⟩⟩;obtain⟨b,rfl,B⟩:=nV (RK.b k1 s λa n=>j.fresh n);have G:p a=p5 (.dT us):=l _ _ t;have C:KRt X.K (vw p hid) us kvs:=⟨o.1,o.2.mono (aH l)⟩
  refine⟨a,b,us,iK m,rfl,rfl,G,B,_,rfl,?_⟩;rcases C.val (iK m) with⟨O,L⟩|⟨v,d',O,L,R⟩
  ·nofun
  nofun
end
def uc(h:Heap)(d:Addr)(es:Array jbj)(ep:Nat):Prop:= ∃o,h.get? d=p5 o/\o.ExactDict/\o.data=.dict es ep
section
variable {A:Tb}{s:Sc}{es:Array jbj}
theorem uc.ty(h:uc s.heap d es ep):s.TypeIs (.ref d) "dict":=let⟨o,h1,h2,_⟩:=h;⟨o,h1,h2.1⟩
theorem F3(e:(d==UT)=θ)(x:uc s.heap d es ep)
 (q:Q (.ref s.heap.objs.size) {s with heap:=s.heap.push {cls:=.type "dict_keyiterator",data:=.fields #[.ref d,.int 0 0,.int es.size 0,.int ep 0]}}):Sy (model prog w) A (YA (.ref d)) Q E s:=by
 have ty:=x.ty;obtain⟨o,a,c,b⟩:=x;refine Yu ty jbp (Tx jbp ty F.entry_dict_iter ?_ (F.args_dict_iter_1 _));unfold Ux.«dict.__iter__»;refine R8 ?_
 unfold jdg;refine R8 (Zy ty ?_);show Sy _ _ (pure (SQ d)) _ _ s;refine Sa ?_
 show Sy _ _ (Zz d>>=_) _ _ s;unfold Zz;rw[if_neg ⋯];refine R8 (Sa (R8 (W9 a b (R8 (Zn a b ?_)))));refine R8 (TR (Sa ⟨_,rfl,"dict_keyiterator",_,⟨_,Sj _ rfl,rfl⟩,Uz.lookup,?_⟩));grind[VY]
theorem Eo {Q:Option Sb->Sc->Prop}(hit:s.heap.IsKeyIter it d i es.size ep)(x:uc s.heap d es ep)(hi:i<es.size)
 (q: ∀h',h'.IsKeyIter it d (i+1) es.size ep->S8 it s.heap h'->Q (p5 es[i].key) {s with heap:=h'}):Sy (model prog w) A (VX (.ref it)) Q E s:=by
 obtain⟨o,k1,k2,k3⟩:=id hit;obtain⟨od,g1,g2,g3⟩:=id x;unfold VX;refine R8 (WJ (T6 (name:=Vx "__next__") hit.typeIs Uz (Tx Uz hit.typeIs XD ?_ (Xs _))));refine R8 (Sa (R8 (R8 ?_)))
 first|refine R8 (U0 hit.typeIs (Sa (R8 (Wr k1 k3 ?_))))|refine R8 (VF hit.typeIs (Sa (R8 (Wr k1 k3 ?_))))
 simp -iota only[show XR "dict_keyiterator"=θ by rfl,SF,if_false];show Sy _ _ (if(SQ d==Te)=ζ then _ else _) _ _ s;rw[if_neg (show¬((SQ d==Te)=ζ) from UU)];refine R8 (Sa (R8 (W9 g1 g3 ?_)));rw[if_neg (by simp)];refine R8 (Sa (R8 (Zn g1 g3 ?_)));rw[if_neg (by simp)];refine Sa ?_
 dsimp only;rw[if_neg (show¬((i:Int)<0) from by simp),U2,Td hi];dsimp only;refine R8 ?_
 first|refine R8 (U0 hit.typeIs (Sa (R8 (Xj hit.typeIs ?_))))|refine R8 (VF hit.typeIs (Sa (R8 (Xj hit.typeIs ?_))))
 show Sy _ _ (jcQ (.ref it) 1 (VY ((i:Int)+1))>>=_) _ _ s;refine R8 (VT k1 k3 (by simp) ?_);have nx:(s.heap.update it (VG (·.setIfInBounds 1 (VY ((i:Int)+1))))).IsKeyIter it d (i+1) es.size ep:=⟨_,Ti _ k1 (UQ (UC k3 _)),(W5 ..).trans k2,by grind[UC,VY]⟩
 refine R8 (Tr (R8 (Xj (s:={s with heap:=s.heap.update it (VG (·.setIfInBounds 1 (VY ((i:Int)+1))))}) nx.typeIs ?_)));show Sy _ _ (pure es[i].key) _ _ _;exact Sa (Sa ⟨_,rfl,Sa (q _ nx (To ..))⟩)
theorem KG {Q:Option Sb->Sc->Prop}(calm:A.handled=ξ)(hit:s.heap.IsKeyIter it d es.size es.size ep)(x:uc s.heap d es ep)
 (q: ∀h',Ys it s.heap h'->Q ξ {s with heap:=h'}):Sy (model prog w) A (VX (.ref it)) Q E s:=by
 obtain⟨o,k1,k2,k3⟩:=id hit;obtain⟨od,g1,g2,g3⟩:=id x;unfold VX;refine R8 (WJ (T6 (name:=Vx "__next__") hit.typeIs Uz (Tx Uz hit.typeIs XD ?_ (Xs _))));refine R8 (Sa (R8 (R8 ?_)))
 first|refine R8 (U0 hit.typeIs (Sa (R8 (Wr k1 k3 ?_))))|refine R8 (VF hit.typeIs (Sa (R8 (Wr k1 k3 ?_))))
 simp -iota only[show XR "dict_keyiterator"=θ by rfl,SF,if_false];show Sy _ _ (if(SQ d==Te)=ζ then _ else _) _ _ s;rw[if_neg (show¬((SQ d==Te)=ζ) from UU)];refine R8 (Sa (R8 (W9 g1 g3 ?_)));rw[if_neg (by simp)];refine R8 (Sa (R8 (Zn g1 g3 ?_)));rw[if_neg (by simp)];refine Sa ?_
 dsimp only;rw[if_neg (show¬((es.size:Int)<0) from by simp),U2,Xa (Sn es.size)];dsimp only;refine R8 ?_
 first|refine R8 (U0 hit.typeIs (Sa ?_))|refine R8 (VF hit.typeIs (Sa ?_))
 show Sy _ _ (jcQ (.ref it) 0 .none>>=_) _ _ s;refine R8 (VT k1 k3 (by simp) ?_);show Sy _ _ (jcO (.type "StopIteration") []>>=_) _ _ _;refine R8 ?_
 simp -iota only[jcO,jcP];refine R8 (TR (R8 (m:=ZI _ _) (Yr (a:=Te) (by rfl) (TR ?_ (by size_fits)))) (by size_fits));simp -iota only[raiseNew];refine R8 (Z4 ?_);rw[show A.in1.handled=ξ from calm];refine R8 (Sa (jbG ?_));refine R8 (Vf (T:="StopIteration") (b:=ζ) ⟨_,Sj _ rfl,rfl⟩ ZJ ?_);exact Sa (q _ (((To ..).extBut.push _).push _))
theorem zO{us:List Sb}{G:List Nat->Prop}(B:KdlSrc prog w T r d us.length P OK)(N: ∀i v,i<us.length->P i v->us[i]? =p5 v)(q:A.handled=ξ)(l:OK s.heap)(hz:us.length<64)
 (J:us.length<2->G (R9 us.length))
 (k:2<=us.length-> ∀(g:Heap) (tk:Nat),(∀c o,s.heap.get? c=p5 o->g.get? c=p5 o)->Sy (model prog w) A.in1.in1 (keyKind' us.toArray) (λκ t=>t={s with heap:=g,toks:=tk}/\
   (jaL us.length).kasWp (jaM prog w A.in1.in1 κ us) (λp t'=>t'=t/\G p.toList) t) (λ_ _=>False) {s with heap:=g,toks:=tk})
 (fin: ∀(g:Heap) (tk a e:Nat) (j:List Nat),(∀c o,s.heap.get? c=p5 o->g.get? c=p5 o)->s.heap.objs.size<=a->G j->g.get? a=p5 (Wf "list" (Uy (j.map λi=>us.getD i Te)) e)->Q (.ref a) {s with heap:=g,toks:=tk}):
 Sy (model prog w) A (call (.builtin "sorted") [.ref r]) Q E s:=by
 refine Yi kind_sorted plain_sorted entry_sorted (args_sorted1 _) ?_
 unfold Ux.«sorted»;refine R8 (m:=checkCount "sorted" 1 1 _) (Sa (R8 (AD (A:=A.in1) B q l (by rw[TY];lia) λg tk acc F D b=>?_)));have I:acc.toList=us:=Wk λi=>by
  by_cases H:i<us.length
  ·have K:i<acc.size:=by rw[b.1];exact H
   have L:acc[i]? =p5 acc[i]:=Td K;rw[Tc,L,N i _ H (b.2 i _ L)]
  ·have K: ¬i<acc.toList.length:=by rw[SV,b.1];exact H
   grind
 rw[I];have M:s.heap.objs.size<=g.objs.size:=UV D;refine R8 (Z3 ?_ (by rw[TY];lia));have z:(g.push (Wf "list" us.toArray 0)).get? g.objs.size=p5 (Wf "list" us.toArray 0):=Sj _ rfl;show Sy _ _ _ _ _ {s with heap:=g.push (Wf "list" us.toArray 0),toks:=tk};have n: ∀j:List Nat,G j->Q (.ref g.objs.size) {s with heap:=Xq (g.push (Wf "list" us.toArray 0)) g.objs.size us (Uy (j.map λi=>us.getD i Te)),toks:=tk}:=λj S=>by
  obtain⟨e,R⟩:=sortedHeap_at (out:=Uy (j.map λi=>us.getD i Te)) z;refine fin _ tk g.objs.size e j (λc u y=>?_) M S R;have lt:=Sw (F c u y);grind[sortedHeap_old,size_push',Sd]
 refine R8 (Tr (Tx slot_list_sort ⟨_,z,rfl⟩ entry_list_sort (qz (P:=λf t=> ∃v,f=.done (.ret v)/\Sy (model prog w) A.in1 (pure (jcK (.ret (SQ g.objs.size)))) (λf t=> ∃v,f=.done (.ret v)/\Q v t) E t) z (by omega) (λh=>?_) (λh g' C=>?_)) (args_list_sort _)))
 ·have e:=n (R9 us.length) (J h)
  rw[show(R9 us.length).map (λi=>us.getD i Te)=us from Wk λi=>by
   grind] at e
  grind[Sa]
 ·refine Tl (k h g' tk λc u y=>C c u (SW (Sw (F c u y))) (Sd _ (F c u y))) (λκ t ⟨O,U⟩=>⟨O,?_⟩) λ_ _ x=>x
  grind[kat_ask_eq,kas_wp_mono,Sa]
end
abbrev RB(H:Hp):List V->List (List Int)->Prop:=Paired λy ks=> ∃b,y=.ref b/\H b=p5 (.tup (ks.map V.int))
theorem Ae: ∀ {us:List (List bj×V)} {xs:List (List bj×Addr×Sb)} {a:List (List Int)},KTd H us xs->us.map (·.1)=a.map iK->RB H (xs.map λx=>V.ref x.2.1) a
 |_,_,[],r,e=>by
  cases r with
  |nil=>exact .nil
  |cons _ _=>cases e
 |_,_,ks::a,r,e=>by
  cases r with
  |nil=>cases e
  | @cons p q f d h t=>
    rw[So,So] at e;injection e with b c
    refine .cons ⟨q.2.1,rfl,?_⟩ (Ae t c);rw[h.2.1,b];unfold iK;rw[SJ];rfl
theorem AH: ∀xs:List (List bj×Addr×Sb),cb (xs.map λx=>V.ref x.2.1) (xs.map λx=>SQ x.2.1)
 | []=>.nil
 |_::xs=>.cons rfl (AH xs)
theorem Ll: ∀ {ns:List Int} {us:List Sb},cb (ns.map V.int) us->vf us ns
 | [],_,h=>by cases h;exact .nil
 |_::_,_,h=>by cases h with|cons a b=>exact .cons a (Ll b)
section
def ey:List (List bj×D)->Option (List (List Int))
 | []=>p5 []
 |(k,_)::r=>(intK k).bind λns=>(ey r).map (ns:: ·)
where intK:List bj->Option (List Int)
 | []=>p5 []
 | .inl i::r=>(intK r).map (i:: ·)
 |_=>ξ
theorem Be: ∀ {k:List bj} {ns:List Int},ey.intK k=p5 ns->k=iK ns
 | [],_,h=>by cases h;rfl
 | .inl i::r,ns,h=>by
   have h:(ey.intK r).map (i:: ·)=p5 ns:=h;obtain⟨t,e,rfl⟩:=SO.mp h;rw[Be e];rfl
 | .inr _::_,_,h=>by cases h
theorem rL: ∀ {kvs:List (List bj×D)} {a:List (List Int)},ey kvs=p5 a->kvs.map (·.1)=a.map iK
 | [],_,h=>by cases h;rfl
 |(k,d)::r,a,h=>by
  have h:((ey.intK k).bind λns=>(ey r).map (ns:: ·))=p5 a:=h;obtain⟨ns,b,h⟩:=Si.mp h;obtain⟨t,e,rfl⟩:=SO.mp h;rw[So,So,rL e,<-Be b]
theorem qk {K:Sf}(f: ∀b xs,hid b=ζ->H b≠p5 (.tup xs)): ∀ {ys:List V} {a:List (List Int)},RB H ys a->Reps K (vw H hid) ys (a.map aQ)
 |_,[],h=>by cases h;exact .nil
 |_,ks::a,h=>by
  cases h with
  |cons c d=>
   obtain⟨b,rfl,e⟩:=c;refine .cons (.tup (cc.mpr ⟨?_,e⟩) (tj ks)) (qk f d);grind
end
abbrev j9:=List (List bj×D)
theorem Bq {α:Type}(next:Nat->Nat): ∀(fuel k:Nat) (left:List α) (out:Array α),fuel=left.length->(jeQ next fuel k left out).toList.Perm (out.toList++left)
 |0,k,left,out,h=>by
  obtain rfl:left=[]:=List.eq_nil_of_length_eq_zero h.symm;rw[TZ];rfl
 |fuel+1,k,left,out,h=>by
  have lt:next k % left.length<left.length:=UR _ (by grind)
  have e:left[next k % left.length]? =p5 left[next k % left.length]:=Su lt;unfold jeQ;rw[e];dsimp only;refine(Bq next fuel (k+1) _ _ (by rw[UZ,if_pos lt];lia)).trans ?_
  rw[Array.toList_push,W1];refine List.Perm.append_left _ ?_
  have a:left=left.take (next k % left.length)++left[next k % left.length]::left.drop (next k % left.length+1):=by
   simp
  rw[Xd]
  conv=>rhs;rw[a]
  exact(YM (l₁:=left.take (next k % left.length))).symm
theorem zG {α:Type}(next:Nat->Nat)(xs:Array α):(pickOrder next xs).toList.Perm xs.toList:=by
 have:=Bq next xs.size 0 xs.toList #[] (by rfl)
 unfold pickOrder;simpa using this
theorem Ex(r:Ris xs)(b:Bel xs j p):SY xs j=p:=by
 have b':=Pv r j;rcases Vt (SY xs j) p with c|c|c
 ·have lt:SY xs j<xs.size:=by have:=b.le;lia
  have e:xs[SY xs j]? =p5 xs[SY xs j]:=Td lt;have a:=b.lo _ _ c e;have d:=b'.hi _ _ (Sn _) e;lia
 ·exact c
 ·have lt:p<xs.size:=by have:=b'.le;lia
  have e:xs[p]? =p5 xs[p]:=Td lt;have a:=b'.lo _ _ c e;have d:=b.hi _ _ (Sn _) e;lia
theorem El {xs:Array Nat}(r:Ris xs)(f:i<=xs.size):SY xs (if i=0 then 0 else xs.getD (i-1) 0+1)=i:=by
 refine Ex r ⟨f,λx a g d=>?_,λx a g d=>?_⟩
 ·rw[if_neg (by grind)];have lt:i-1<xs.size:=by grind
  have e:xs[i-1]? =p5 xs[i-1]:=Td lt;have b:xs.getD (i-1) 0=xs[i-1]:=by nofun
  rw[b]
  by_cases c:x=i-1
  ·nofun
  ·have:=r.lt (show x<i-1 by lia) d e;lia
 ·by_cases c:i=0
  ·rw[if_pos c];simp
  ·rw[if_neg c];have lt:i-1<xs.size:=by omega
   have e:xs[i-1]? =p5 xs[i-1]:=Td lt;have b:xs.getD (i-1) 0=xs[i-1]:=by nofun
   rw[b];exact r.lt (show i-1<x by omega) e d
def gh(w:Tf):Bool:=w.params.followText "set-order"
def g6(w:Tf)(a:Addr)(ep:Nat)(es:Array (Int×Sb)):Array (Int×Sb):=if gh w=ζ then pickOrder (w.params.setOrder a ep) es else es
theorem jK(w:Tf)(a:Addr)(ep:Nat)(es:Array (Int×Sb)):(g6 w a ep es).toList.Perm es.toList:=by
 unfold g6;split
 ·exact zG _ _
 rfl
theorem jR(w:Tf)(a:Addr)(ep:Nat)(es:Array (Int×Sb)):(g6 w a ep es).size=es.size:=by
 have:=(jK w a ep es).length_eq;omega
def xc(w:Tf)(t:TK)(i:Nat):Nat:=if gh w=ζ then 0 else if i=0 then 0 else t.place.getD (i-1) 0+1
def eS(w:Tf)(h:Heap)(d:Addr)(es:Array (Int×Sb))(ep:Nat)(t:TK):Prop:= ∃o xs,h.get? d=p5 o/\SetAt w o es ep t xs
def c7(w:Tf)(t:TK)(h:Heap)(it d:Addr)(i n ep:Nat):Prop:= ∃o,h.get? it=p5 o/\o.cls=.type "set_iterator"/\o.data=.fields #[.int (xc w t i) 0,.int i 0,.ref d,.int n 0,.int ep 0]
theorem ea:Slot "set_iterator" "__next__" "set_iterator.__next__":=.of (owner:="set_iterator") (n:="__next__") (by rfl) (by rfl) (by rfl) (by rfl) (by first|exact .inl (by rfl)|exact .inr (by decide+kernel)) (by rfl)
theorem j8:jaT table "set_iterator.__next__"=p5 Ux.«set_iterator.__next__»:=entryFor_of_tree (by rfl)
theorem EG:jbR.lookup (jdH ['r','o','t','a','r','e','t','i','_','t','e','s'].reverse)=p5 Manifest.sig_set_iterator:=by rfl
theorem mn(a:Sb):jcS "set_iterator.__next__" ⟨[a],[]⟩:=by unfold jcS;rw[signature?_of (id:="set_iterator.__next__") (n:=['_','_','t','x','e','n','_','_']) (o:=['r','o','t','a','r','e','t','i','_','t','e','s']) (by rfl) EG];rfl
theorem lv:Slot "set_iterator" "__iter__" "set_iterator.__iter__":=.of (owner:="set_iterator") (n:="__iter__") (by rfl) (by rfl) (by rfl) (by rfl) (by first|exact .inl (by rfl)|exact .inr (by decide+kernel)) (by rfl)
theorem sx:jaT table "set_iterator.__iter__"=p5 Ux.«dict_keyiterator.__iter__»:=Yg (id':="dict_keyiterator.__iter__") (by kernel_rfl) rfl (by decide+kernel) (by kernel_rfl)
theorem uK(a:Sb):jcS "set_iterator.__iter__" ⟨[a],[]⟩:=by rfl
section
variable {A:Tb}{s:Sc}{es:Array (Int×Sb)}{i:Nat}
theorem eS.ty(h:eS w s.heap d es ep t):s.TypeIs (.ref d) "set":=let⟨o,_,h1,h2⟩:=h;⟨o,h1,h2.ex.1⟩
theorem eS.lt {h:Heap}(x:eS w h d es ep t):d<h.objs.size:=let⟨_,_,h1,_⟩:=x;Sw h1
theorem eS.to {h h':Heap}(x:eS w h d es ep t)(k: ∀o,h.get? d=p5 o->h'.get? d=p5 o):eS w h' d es ep t:=let⟨o,xs,h1,r⟩:=x;⟨o,xs,k o h1,r⟩
theorem c7.ty(h:c7 w t s.heap it d i n ep):s.TypeIs (.ref it) "set_iterator":=let⟨o,h1,h2,_⟩:=h;⟨o,h1,h2⟩
theorem o9:jaT table "set.__iter__"=p5 Ux.«frozenset.__iter__»:=Yg (id':="frozenset.__iter__") (by kernel_rfl) rfl (by decide+kernel) (by kernel_rfl)
theorem cM(h:Q (gh w) s):Sy (model prog w) A setsByText Q E s:=by
 unfold setsByText;exact R8 (Xr (Sa h))
theorem FU(x:eS w s.heap d es ep t)(q:Q (.ref s.heap.objs.size) {s with heap:=s.heap.push {cls:=.type "set_iterator",data:=.fields #[.int (xc w t 0) 0,.int 0 0,.ref d,.int es.size 0,.int ep 0]}}):Sy (model prog w) A (YA (.ref d)) Q E s:=by
 have ty:=x.ty;obtain⟨o,xs,a,S⟩:=x;refine Yu ty jbS (Tx jbS ty o9 ?_ (F.args_set_iter_1 _));unfold Ux.«frozenset.__iter__»;unfold jej jaU;simp -iota only[VV,Wb,SF, ↓reduceIte,bind_assoc,T3,bne_self_eq_false];unfold VH jdJ setDrawn setEntries;refine R8 (Sa ?_)
 try dsimp only
 refine R8 (Sa ?_);refine R8 (R8 (R8 (Ts a S.hd S.fits (Sa (Sa ?_)))));refine R8 (R8 (Ts a S.hd S.fits ?_));dsimp only;refine R8 (cM (Sa ?_));have c:(!gh w&&(!t.plain&&χ (es.size>1)))=false:=by rw[S.pl];simp
 refine V8 (λb=>absurd (show(!gh w&&(!t.plain&&χ (es.size>1)))=ζ from b) (by rw[c];decide)) λ_=>?_
 refine R8 (Sa (R8 (VA a S.hd S.fits ?_)));refine R8 (TR (Sa ⟨_,rfl,"set_iterator",_,⟨_,Sj _ rfl,rfl⟩,ea.lookup,?_⟩));have:xc w t 0=0:=by simp[xc]
 rw[this] at q;simpa [VY] using q
theorem rP(b:s.heap.get? d=p5 o)(S:SetAt w o es ep t xs)(h:Q (g6 w d ep es) s):Sy (model prog w) A (setWalk d) Q E s:=by
 unfold setWalk;refine R8 (Ts b S.hd S.fits ?_);dsimp only;refine R8 (cM ?_);unfold g6 at h
 by_cases c:gh w=ζ
 ·rw[if_pos c];rw[if_pos c] at h;exact R8 (Xr (Sa h))
 ·rw[if_neg c];rw[if_neg c] at h;have f:(!t.plain&&χ (es.size>1))=false:=by rw[S.pl];rfl
  refine V8 (λa=>absurd (show(!t.plain&&χ (es.size>1))=ζ from a) (by rw[f];decide)) λ_=>?_
  have e:(!t.led&&χ (es.size>1))=false:=by
   have:=S.led;unfold gh at c;nofun
  refine R8 ?_
  show Sy _ _ (if(!t.led&&χ (es.size>1))=ζ then UL _ else pure PUnit.unit) _ _ _;rw[if_neg (by rw[e];decide)];exact Sa (Sa h)
theorem Bb(f:s.heap.get? d=p5 o)(S:SetAt w o es ep t xs)(r:i<=es.size)(h:Q (((g6 w d ep es)[i]?).map λe=>(e.2,xc w t (i+1))) s):Sy (model prog w) A (setNext d (xc w t i) i ep) Q E s:=by
 unfold setNext;refine R8 (Ts f S.hd S.fits ?_);dsimp only;refine R8 (cM ?_)
 by_cases c:gh w=ζ
 ·rw[if_pos c,bne_self_eq_false];simp -iota only[SF,if_false];refine R8 (rP f S (Sa ?_));have e: ∀i,xc w t i=0:=λi=>by unfold xc;rw[if_pos c]
  rw[e] at h⊢;exact h
 ·rw[if_neg c];have m:(!t.plain&&χ (es.size>1))=false:=by rw[S.pl];rfl
  refine V8 (λa=>absurd (show(!t.plain&&χ (es.size>1))=ζ from a) (by rw[m];decide)) λ_=>?_
  have j:(!t.led&& !es.isEmpty)=false:=by
   have:=S.led;unfold gh at c;nofun
  refine R8 ?_
  show Sy _ _ (if(!t.led&& !es.isEmpty)=ζ then UL _ else pure PUnit.unit) _ _ _;rw[if_neg (by rw[j];decide)];refine Sa ?_
  have g:=S.T.sz;unfold rn at g;rw[Sm,<-S.size] at g;have l:xc w t i=if i=0 then 0 else t.place.getD (i-1) 0+1:=by unfold xc;rw[if_neg c]
  have b:xc w t (i+1)=t.place.getD i 0+1:=by unfold xc;rw[if_neg c,if_neg (by simp)];rfl
  rw[l,El S.T.sp (by nofun)];refine Sa ?_
  have k:g6 w d ep es=es:=by unfold g6;rw[if_neg c]
  rw[k,b] at h
  by_cases q:i<es.size
  ·have p:t.place[i]? =p5 (t.place[i]'(by nofun)):=Td (by nofun);have n:t.place.getD i 0=t.place[i]'(by nofun):=by simp[Z6,show i<t.place.size by simp_all]
   nofun
  ·rw[Xa (by nofun)] at h⊢;exact h
theorem FY(a:c7 w t s.heap it d i es.size ep)(x:eS w s.heap d es ep t)(e:i<es.size)
 (q: ∀h',c7 w t h' it d (i+1) es.size ep->S8 it s.heap h'->Q (p5 ((g6 w d ep es)[i]'(by rw[jR];exact e)).2) {s with heap:=h'}):Sy (model prog w) A (VX (.ref it)) Q E s:=by
 have ty:=a.ty;obtain⟨o,c,j,b⟩:=id a;obtain⟨k,xs,h,S⟩:=id x;unfold VX;refine R8 (WJ (T6 (name:=Vx "__next__") ty ea (Tx ea ty j8 ?_ (mn _))));unfold Ux.«set_iterator.__next__» jaU;simp -iota only[VV,Wb,SF, ↓reduceIte,bind_assoc,T3,bne_self_eq_false];refine R8 (Sa ?_);refine R8 (Wr c b ?_);dsimp only;refine R8 (WF h S.hd S.fits ?_);rw[bne_self_eq_false];simp -iota only[SF,if_false,U2];refine R8 (Bb h S (UV e) ?_);have lt:i<(g6 w d ep es).size:=by rw[jR];exact e
 rw[Td lt];dsimp -iota only[Wa];refine R8 (VT c b (by simp) ?_);have f:(s.heap.update it (VG (·.setIfInBounds 0 (VY (xc w t (i+1):Nat))))).get? it=p5 _:=Ti _ c (UQ (UC b _));refine R8 (VT (s:={s with heap:=s.heap.update it (VG (·.setIfInBounds 0 (VY (xc w t (i+1):Nat))))}) f (UC b _) (by grind) ?_);have g:(VG (·.setIfInBounds 1 (VY ((i:Int)+1))) (VG (·.setIfInBounds 0 (VY (xc w t (i+1):Nat))) o)).data=.fields #[.int (xc w t (i+1)) 0,.int ((i+1:Nat):Int) 0,.ref d,.int es.size 0,.int ep 0]:=by
  rw[UC (UC b _)];rfl
 have nx:c7 w t ((s.heap.update it (VG (·.setIfInBounds 0 (VY (xc w t (i+1):Nat))))).update it (VG (·.setIfInBounds 1 (VY ((i:Int)+1))))) it d (i+1) es.size ep:=
  ⟨_,Ti _ f (UQ g),(W5 ..).trans ((W5 ..).trans j),g⟩
 exact Sa ⟨_,rfl,Sa (q _ nx ((To ..).trans (To ..)))⟩
theorem IQ(e:A.handled=ξ)(c:c7 w t s.heap it d es.size es.size ep)(x:eS w s.heap d es ep t)
 (q: ∀h',Ys it s.heap h'->Q ξ {s with heap:=h'}):Sy (model prog w) A (VX (.ref it)) Q E s:=by
 have ty:=c.ty;obtain⟨o,h,i,g⟩:=id c;obtain⟨j,xs,f,S⟩:=id x;unfold VX;refine R8 (WJ (T6 (name:=Vx "__next__") ty ea (Tx ea ty j8 ?_ (mn _))));unfold Ux.«set_iterator.__next__» jaU;simp -iota only[VV,Wb,SF, ↓reduceIte,bind_assoc,T3,bne_self_eq_false];refine R8 (Sa ?_);refine R8 (Wr h g ?_);dsimp only;refine R8 (WF f S.hd S.fits ?_);rw[bne_self_eq_false];simp -iota only[SF,if_false,U2];refine R8 (Bb f S (Sn _) ?_);rw[Xa (by simp[jR])];dsimp -iota only[Option.map_none];refine R8 (VT h g (by simp) ?_);show Sy _ _ (jcO (.type "StopIteration") []>>=_) _ _ _;refine R8 ?_
 simp -iota only[jcO,jcP];refine R8 (TR (R8 (m:=ZI _ _) (Yr (a:=Te) (by rfl) (TR ?_ (by size_fits)))) (by size_fits));simp -iota only[raiseNew];refine R8 (Z4 ?_);rw[show A.in1.handled=ξ from e];refine R8 (Sa (jbG ?_));refine R8 (Vf (T:="StopIteration") (b:=ζ) ⟨_,Sj _ rfl,rfl⟩ ZJ ?_);exact Sa (q _ (((To ..).extBut.push _).push _))
theorem c7.to {h h':Heap}(x:c7 w t h it d i n ep)(k: ∀o,h.get? it=p5 o->h'.get? it=p5 o):c7 w t h' it d i n ep:=let⟨o,h1,r⟩:=x;⟨o,k o h1,r⟩
theorem GD(a:c7 w t s.heap it d i n ep)(h:Q (.ref it) s):Sy (model prog w) A (YA (.ref it)) Q E s:=by
 have ty:=a.ty;refine Yu ty lv (Tx lv ty sx ?_ (uK _));show Sy _ _ (ret (.ref it)) _ _ s;exact Sa ⟨_,rfl,"set_iterator",_,ty,ea.lookup,h⟩
theorem D1(a:A.handled=ξ)(I:Addr)(n:d≠I):Walks prog w A I [I,d] [I] es.size (λi v=> ∃e,(g6 w d ep es)[i]? =p5 e/\v=e.2) (λi h=>c7 w t h I d i es.size ep/\eS w h d es ep t) where
 sub:=λb f=>by nofun
 frame:=λ_ _ _ st l=>⟨st.1.to λo e=>l I (by simp) o e,st.2.to λo e=>l d (by simp) o e⟩
 item:=λi s Q E k st c=>FY st.1 st.2 k λh' j m=>c _ h' s.toks ⟨_,Td (by rw[jR];exact k),rfl⟩ ⟨j,st.2.to λo e=>m.extBut d o n e⟩ λb o f e=>m.extBut b o (λh=>f (by simp[h])) e
 done:=λs Q E st c=>IQ a st.1 st.2 λh' g=>c h' s.toks λb o f e=>g b o (λh=>f (by simp[h])) e
 self:=λ_ _ _ _ st c=>GD st.1 c
theorem Gj(c:s.TypeIs (.ref r) "set")(h:Q θ s):Sy (model prog w) A (X4 (.ref r)) Q E s:=by
 unfold X4;refine R8 (XF c PySem.F.slot_set_len.lookup ?_);generalize hid:("set.__len__":String)=id0;wp_delta;rw[show splitId id0=p5 ("set","__len__") from by subst hid;rfl];subst hid;refine R8 (Vf (T:="set") (b:=ζ) c (by rfl) ?_);refine V8 (λa=>absurd a ()) (λ_=>?_);refine V8 (λ_=>?_) (λa=>absurd (by rfl) a);refine R8 (jau c ?_);exact Sa h
theorem Ko:KdlSrc prog w "set" d d es.size (λi v=> ∃e,(g6 w d ep es)[i]? =p5 e/\v=e.2) (λh=>eS w h d es ep t) where
 type:=λ_ h=>h.ty
 there:=λ_ h=>⟨h.lt,h.lt⟩
 keep:=λ_ _ h c=>h.to λo e=>c d (.inl rfl) o e
 notList:=by rfl
 notTuple:=by rfl
 hint:=λ_ _ _ _ h a=>Gj h.ty a
 iter:=λ_ _ b h=>⟨_,_,λ_ _ a=>FU h a,D1 b _ (SW h.lt),⟨_,Sj _ rfl,rfl,rfl⟩,h.to λo e=>Sd _ e⟩
end
set_option maxHeartbeats 4000000
def aG(w:Tf):Obj:={cls:=.type "set",dict:=ξ,data:=.set #[] 0 (.fresh 0 0 (!gh w))}
theorem DZ(f m:Nat)(l:Bool):TOk (.fresh f m l) [] where
 pw:=⟨3,by simp,by simp,rfl⟩
 sz:=rfl
 sp:=Wh
 sd:=Wh
 lp:=λj h=>by cases h
 ld:=λj h=>by cases h
 dj:=λj h=>by cases h
 fl:=by show 0<=7;simp
 rc:=λx h=>by nofun
theorem iW(w:Tf):cp w (aG w) #[] 0 (.fresh 0 0 (!gh w)) []:=⟨⟨⟨rfl,rfl,rfl⟩,rfl,rfl,DZ _ _ _,rfl,rfl,Wq⟩,by show 0*5<7*3;simp⟩
section
variable {A:Tb}{E:Sb->Sc->Prop}{s:Sc}{xs:eM}
theorem Ce(h:Q (.ref s.heap.objs.size) {s with heap:=s.heap.push (aG w)}):Sy (model prog w) A (newSet (.type "set")) Q E s:=by
 unfold newSet;refine R8 (cM ?_);dsimp only;simp only[newObj];exact R8 (jbC (Sa h))
theorem yL {as:List Sb}(b:jbq "set.__new__" ⟨.type "set"::as,[]⟩=pure Unit.unit){Q₁:Sb->Sc->Prop}(h:Q₁ (.ref s.heap.objs.size) {s with heap:=s.heap.push (aG w)}):Vo (model prog w) A (.call (.builtin "set.__new__") ⟨.type "set"::as,[]⟩) (wants Q₁ E) s:=by
 refine XJ ?_;show Sy _ A.in1 (do jbq "set.__new__" ⟨.type "set"::as,[]⟩;ZD (.builtin "set.__new__" ⟨.type "set"::as,[]⟩)) _ _ s;refine R8 (Yr b (Sa ⟨YG jbT _,UM F.entry_set_new ?_⟩));rw[UE jbT _];unfold Ux.«set.__new__» jcT;have a:=Xb;obtain⟨c,g,d,tk,os⟩:=s;dsimp only
 wp_walk;refine Xr (Sa ?_)
 dsimp only;simp only[newObj];refine R8 (jbC (Sa ?_));exact Sa h
theorem Ap(h:Q (.ref s.heap.objs.size) {s with heap:=s.heap.push (aG w)}):Sy (model prog w) A (call (.type "set") []) Q E s:=by
 obtain⟨c,v,k⟩:=Ud.mro;have j:=Ud.made;have l:=Ud.sub;refine jcw (XJ ?_);show Sy _ _ (callAny (.type "set") _) _ _ _;refine Sa ⟨jaf _ (by decide+kernel),UM jaV ?_⟩;rw[jag (ZA "set" [] []) rfl];have u:=Ud.notType;have x:=Ud.canCreate;have p:=F.typeCall_set_0
 repeat (any_goals (first|assumption|wp_step))
 refine Vc (yL (E:=E) F.newCall_set_0 (Q₁:=λobj a=>obj=.ref s.heap.objs.size/\a={s with heap:=s.heap.push (aG w)}) ⟨rfl,rfl⟩) λr a m=>?_
 cases r with
 |error e=>exact m
 |ok o=>
  cases o with
  |ret obj=>
   obtain⟨rfl,rfl⟩:=m;have i:(s.heap.push (aG w)).get? s.heap.objs.size=p5 (aG w):=Sj _ rfl;have i:(s.heap.push (aG w)).get? s.heap.objs.size=p5 {cls:=.type "set",dict:=ξ,data:=.set #[] 0 (.fresh 0 0 (!gh w))}:=i;have q:YI {s with heap:=s.heap.push (aG w)} (.ref s.heap.objs.size) "set":=⟨_,i,rfl⟩
   have t:=Ud.init.lookup;have n:=Ud.init.bind (.ref s.heap.objs.size)
   repeat (any_goals (first|assumption|wp_step))
   refine Vc (ZN (R:=wants (λr b=>r=.none/\Q (.ref s.heap.objs.size) b) E) Ud.init.plain jbr (check_set_init q ?_)) λg b d=>?_
   ·unfold Ux.«set.__init__» noKeywords
    wp_walk
    exact⟨rfl,h⟩
   ·cases g with
    |error e=>omega
    |ok f=>
     cases f with
     |ret r=>
      obtain⟨rfl,y⟩:=d
      repeat (any_goals (first|assumption|wp_step))
     |_=>omega
  |_=>omega
theorem SetAt.ty(b:s.heap.get? a=p5 o)(S:SetAt w o es ep t xs):s.TypeIs (.ref a) "set":=⟨o,b,S.ex.1⟩
theorem IJ(g:s.heap.get? a=p5 o)(S:SetAt w o es ep t xs)(m:mW prog w s.heap xs)(l:A.units+1<S7)(f:(KI prog w).is s.heap k b)
 (h:Q (.bool (χ (k∈xs.map (·.1)))) {s with toks:=s.toks+(KI prog w).draws k}):Sy (model prog w) A (Ub .In (.ref b) (.ref a)) Q E s:=by
 have e:=SetAt.ty g S;show Sy _ _ (do return .bool (<-contains (.ref a) (.ref b))) Q E s;refine R8 ?_
 unfold contains
 try with_reducible refine Tr ?_
 refine R8 (XF e XU.lookup ?_);show Sy _ _ (if(p5 (Value.builtin "set.__contains__")==p5 Te)=ζ then _ else _) _ E s;rw[if_neg (by simp)];refine R8 (wpAny_callSpecialUnlessNone?_slot (name:=Vx "__contains__") e XU (Tx XU e entry_set_contains ?_ (F.args_set_contains_2 _ _)));unfold Ux.«frozenset.__contains__» Ws;simp only[VV,bind_assoc];unfold VH Xt setContains;refine R8 (Sa ?_)
 try dsimp only
 refine R8 (Sa ?_)
 try dsimp only
 refine R8 (wpAny_tryCatch ?_);refine Tr ?_
 have d:(KI prog w).room A.in1:=TV l;refine R8 ((KI prog w).pyHash d f ?_);rw[A3];refine R8 (qC (s:={s with toks:=s.toks+(KI prog w).draws k}) g S m d f (λi c n=>?_) λj=>?_)
 ·rw[zm (SM.mpr ⟨(k,c),S5 n,rfl⟩)] at h;refine Sa ?_
  exact Sa ⟨_,rfl,Uu (Sa h)⟩
 ·rw[zq j] at h;refine Sa ?_
  exact Sa ⟨_,rfl,Uu (Sa h)⟩
theorem GM(i:s.heap.get? a=p5 o)(S:cp w o es ep t xs)(x:mW prog w s.heap xs)(q:A.units+1<S7)(j:(KI prog w).is s.heap k b)(g:xs.length<=1000)
 (h: ∀h' o' e d t' c,S8 a s.heap h'->h'.get? a=p5 o'->cp w o' e d t' c->((k∈xs.map (·.1)/\c=xs)\/(k∉xs.map (·.1)/\c.Perm (xs++[(k,b)])))->Q .none {s with heap:=h',toks:=s.toks+(KI prog w).draws k}):
 Sy (model prog w) A (call (.builtin "set.add") [.ref a,.ref b]) Q E s:=by
 have u:=SetAt.ty i S.toSetAt;have f:(KI prog w).room A.in1:=TV q;refine Tx F.slot_set_add u F.entry_set_add ?_ (F.args_set_add_2 _ _)
 unfold Ux.«set.add» Ws;simp only[VV,bind_assoc];unfold VH setAdd;refine R8 (Sa ?_)
 try dsimp only
 refine R8 (Sa ?_)
 try dsimp only
 refine R8 ?_
 refine Tr (R8 ((KI prog w).pyHash f j ?_));rw[A3];refine pq (s:={s with toks:=s.toks+(KI prog w).draws k}) i S x f j g (λv=>?_) λn h' o' e d t' c r l m p=>?_
 ·exact Sa ⟨_,rfl,h s.heap o es ep t xs (U5 a s.heap) i S (.inl ⟨v,rfl⟩)⟩
 ·exact Sa ⟨_,rfl,h h' o' e d t' c r l m (.inr ⟨n,p⟩)⟩
theorem wA(l:s.heap.get? a=p5 o)(S:cp w o es ep t xs)(y:mW prog w s.heap xs)(u:A.units+1<S7)(m:(KI prog w).is s.heap k b)(j:xs.length<=1000)
 (h: ∀h' o' f e t' d,S8 a s.heap h'->h'.get? a=p5 o'->cp w o' f e t' d->((k∉xs.map (·.1)/\d=xs)\/(∃i c,xs[i]? =p5 (k,c)/\d=xs.eraseIdx i))->Q .none {s with heap:=h',toks:=s.toks+(KI prog w).draws k}):
 Sy (model prog w) A (call (.builtin "set.discard") [.ref a,.ref b]) Q E s:=by
 have x:=SetAt.ty l S.toSetAt;have g:(KI prog w).room A.in1:=TV u;refine Tx F.slot_set_discard x F.entry_set_discard ?_ (F.args_set_discard_2 _ _)
 unfold Ux.«set.discard» Ws;simp only[VV,bind_assoc];unfold VH Xt setDiscard;refine R8 (Sa ?_)
 try dsimp only
 refine R8 (Sa ?_)
 try dsimp only
 refine R8 (wpAny_tryCatch ?_);refine Tr (R8 ((KI prog w).pyHash g m ?_));rw[A3];refine oF (s:={s with toks:=s.toks+(KI prog w).draws k}) l S y g m j (λq=>?_) λz h' o' f e t' d v n p r=>?_
 ·exact Sa ⟨_,rfl,h s.heap o es ep t xs (U5 a s.heap) l S (.inl ⟨q,rfl⟩)⟩
 ·exact Sa ⟨_,rfl,h h' o' f e t' d v n p (.inr r)⟩
end
def xf(i:Nat)(ρ:aC):Option (List (List Int)):=match ρ[i]? with
 |some (.ob (.tset ks))=>p5 ks
 |_=>ξ
theorem sW(h:xf i ρ=p5 ks):ρ[i]? =p5 (.ob (.tset ks)):=by
 grind[xf]
abbrev mz(xs:eM):List V:=xs.map λx=>V.ref x.2
abbrev zu(xs:eM):List D:=xs.map λx=>D.tup (x.1.map D.int)
section
variable {K:Sf}{c:Ct}{ρ:aC}{σ:St}
theorem SR.setT(h:SR K c hid ρ σ H)(e:xf i ρ=p5 ks): ∃a xs,σ[i]? =p5 (p5 (.ref a))/\hid a=ζ/\c.H₀ a=ξ/\H a=p5 (.tst xs)/\(xs.map (·.1)).Perm ks/\Reps K (vw H hid) (mz xs) (zu xs):=by
 obtain⟨a,b,⟨g,k⟩,us,d,j,f⟩:=h.sl i _ (sW e);nofun
theorem SR.putS{b:eM}(h:SR K c hid ρ σ H)(g:xf i ρ=p5 ks)(e:σ[i]? =p5 (p5 (.ref a)))(p:(b.map (·.1)).Perm ks')(r:Reps K (vw H hid) (mz b) (zu b)):SR K c hid (ρ.set i (.ob (.tset ks'))) σ (aV H a (.tst b)):=by
 obtain⟨k,us,d,j,f,m,n,l⟩:=h.setT g;rw[e] at d;cases d;exact h.putO (sW g) trivial trivial e (.inl rfl) j f nofun ⟨⟨j,f⟩,b,aA,p,by grind[cm]⟩
end
theorem items_int: ∀ {ns:List Int} {us:List Sb},cb (ns.map V.int) us->PySem.ItemsAre (intKind prog w) ns us
 | [],_,h=>by cases h;exact .nil
 |n::ns,_,h=>by
  cases h with
  |cons r a=>
   obtain⟨t,rfl⟩:=r;exact .cons (intKind_is _ _ _ _) (items_int a)
section
variable {X:Cx}{H:Hp}{s:Sc}{a b:Addr}
theorem lV {ks:List Int}(I:Inv X aa σ H s)(h:SqT X.K H b (ks.map V.int)):(KI X.prog X.w).is s.heap ks b:=by
 obtain⟨a,r,⟨o,c,d,n,e⟩,_⟩:=I.tuple h;exact⟨o,a.toArray,n,c,d,e,by grind[items_int]⟩
theorem kx(I:Inv X aa σ H s)(h: ∀x∈xs,SqT X.K H x.2 (x.1.map V.int)):mW X.prog X.w s.heap xs:=λx a=>lV I (h x a)
def Pz:List V->Hp->VK->Prop:=λxs H Q=>xs=[]/\ ∀a,H a=ξ->Q (.ref a) (aV H a (.tst []))
theorem zt:dq X (.type "set") Pz:=by
 intro a s σ H xs us Q I r h;obtain⟨rfl,q⟩:=h;cases r;refine Ap ?_
 exact⟨.ref s.heap.objs.size,_,I.laid (t':=s.toks) (λb o e=>Sd _ e) (Sn _) (show b6 X.prog X.w _ _ _ (.tst []) from⟨_,_,_,_,Sj _ rfl,iW _⟩),rfl,q _ (I.hok.fresh (Sn _))⟩
def Op(zs:eM)(k:List Int)(b:Addr)(a:eM):Prop:=(k∈zs.map (·.1)/\a=zs)\/(k∉zs.map (·.1)/\a.Perm (zs++[(k,b)]))
def OD(zs:eM)(k:List Int)(a:eM):Prop:=(zs.map (·.1)).Nodup/\((k∉zs.map (·.1)/\a=zs)\/(∃(i:Nat) (c:Addr),zs[i]? =p5 (k,c)/\a=zs.eraseIdx i))
def OG(K:Sf):V->List V->Hp->VK->Prop:=λx xs H Q=> ∃a b zs k,x=.ref a/\xs=[.ref b]/\H a=p5 (.tst zs)/\SqT K H b (k.map V.int)/\(∀z∈zs,SqT K H z.2 (z.1.map V.int))/\zs.length<=1000/\ ∀c,Op zs k b c->Q .non (aV H a (.tst c))
def Pk(K:Sf):V->List V->Hp->VK->Prop:=λx xs H Q=> ∃a b zs k,x=.ref a/\xs=[.ref b]/\H a=p5 (.tst zs)/\SqT K H b (k.map V.int)/\(∀z∈zs,SqT K H z.2 (z.1.map V.int))/\zs.length<=1000/\ ∀c,OD zs k c->Q .non (aV H a (.tst c))
theorem AX {h':Heap}{t':Nat}(I:Inv X aa σ H s)(e:H a=p5 (.tst xs))(d:S8 a s.heap h')(c:h'.get? a=p5 o')(S:cp X.w o' es' ep' tb' zs'):
 Inv X aa σ (aV H a (.tst zs')) {s with heap:=h',toks:=t'}:=I.write (x:=a) (e:=a) (by rw[e];trivial) (.inl rfl) (λb u f g=>(d.2 b f).trans g) ⟨_,c⟩ ⟨_,_,_,_,c,S⟩
theorem Ka(i:X.A.units+1<S7):Qi X "set.add" (OG X.K):=by
 intro C s σ H x xs v us Q I y l h;obtain⟨a,b,zs,k,rfl,rfl,c,p,hz,m,q⟩:=h;cases y;obtain⟨u,rfl,z⟩:=l.one;cases z;obtain⟨o,es,ep,t,B,S⟩:=(show b6 X.prog X.w H s.heap a (.tst zs) from I.hok a _ c)
 refine GM B S (kx I hz) i (lV I p) m λh' o' n j t' f r d e g=>?_
 exact⟨.non,_,AX I c r d e,rfl,q _ g⟩
theorem Jg(i:X.A.units+1<S7):Qi X "set.discard" (Pk X.K):=by
 intro C s σ H x xs v us Q I y l h;obtain⟨a,b,zs,k,rfl,rfl,c,p,hz,m,q⟩:=h;cases y;obtain⟨u,rfl,z⟩:=l.one;cases z;obtain⟨o,es,ep,t,B,S⟩:=(show b6 X.prog X.w H s.heap a (.tst zs) from I.hok a _ c)
 refine wA B S (kx I hz) i (lV I p) m λh' o' n j t' f r d e g=>?_
 exact⟨.non,_,AX I c r d e,rfl,q _ ⟨S.nd,g⟩⟩
end
section
variable {X:Cx}{ty:TE}
def QH(K:Sf)(ty e:TE):TE:=λσ H Q=>ty σ H λy d=>e σ d λx c=> ∃a b zs k,x=.ref a/\y=.ref b/\c a=p5 (.tst zs)/\SqT K c b (k.map V.int)/\(∀z∈zs,SqT K c z.2 (z.1.map V.int))/\Q (.bl (χ (k∈zs.map (·.1)))) c
theorem M0(p:X.A.units+1<S7)(z:PE X i ty)(g:PE X o td):PC X .In i o (QH X.K ty td):=by
 intro j s σ H Q I h;refine bC (z j s σ H _ I h) λq m ⟨y,C,r,J,E⟩=>bC (g j m σ C _ r E) λu G e=>?_
 obtain⟨x,f,d,F,a,b,zs,k,v,B,D,l,n,c⟩:=e;subst v B;obtain rfl:u=SQ a:=F;obtain rfl:q=SQ b:=J;obtain⟨o,es,ep,t,g,S⟩:=(show b6 X.prog X.w f G.heap a (.tst zs) from d.hok a _ D)
 refine IJ g S.toSetAt (kx d n) p (lV d l) ?_
 have c:Q (.bl (χ (k∈jaO (λx:List Int×Addr=>x.1) zs))) f:=c;generalize decide (k∈jaO (λx:List Int×Addr=>x.1) zs)=bb at c⊢;exact⟨.bl bb,f,d.tok _,rfl,c⟩
end
abbrev Rw(K:Sf)(H:Hp):List V->List (List Int)->Prop:=Paired λy ks=> ∃b,y=.ref b/\SqT K H b (ks.map V.int)
theorem Fq {K:Sf}: ∀ {zs:eM},(∀z∈zs,SqT K H z.2 (z.1.map V.int))->Rw K H (mz zs) (zs.map (·.1))
 | [],_=>.nil
 |z::zs,h=>.cons ⟨z.2,rfl,h z SB⟩ (Fq λy a=>h y (Sx _ a))
theorem Cf {K:Sf}: ∀ {ys:List V} {a:List (List Int)} {i:Nat},Rw K H ys a->i<a.length-> ∃b,ys.getD i .non=.ref b/\SqT K H b ((a.getD i []).map V.int)
 |_,_,_,.nil,e=>by simp at e
 |_,_,0,.cons h _,e=>by nofun
 |_,_,i+1,.cons _ r,e=>by
  obtain⟨b,c,d⟩:=Cf (i:=i) r (by nofun);grind
theorem rj: ∀zs:eM,cb (mz zs) (zs.map λx=>SQ x.2)
 | []=>.nil
 |_::zs=>.cons rfl (rj zs)
theorem yR {α β:Type}(f:α->β){l m:List β}(p:l.Perm m): ∀zs:List α,m=zs.map f-> ∃a:List α,a.Perm zs/\l=a.map f:=by
 induction p with
 |nil=>simp
 |cons x p n=>
  intro zs e;cases zs with
  |nil=>nofun
  |cons z zs=>
   rw[So] at e;injection e with o b
   obtain⟨a,c,k⟩:=n zs b;exact⟨z::a,c.cons z,by nofun⟩
 |swap x y l=>
  intro zs e;cases zs with
  |nil=>nofun
  |cons z zs=>
   cases zs with
   |nil=>nofun
   |cons j zs=>
    rw[So,So] at e;injection e with o b
    injection b with b s
    exact⟨j::z::zs,jcR z j zs,by nofun⟩
 |trans u t d i=>
  intro zs e;obtain⟨g,c,k⟩:=i zs e;obtain⟨h,q,r⟩:=d g k;exact⟨h,q.trans c,r⟩
theorem jU {k l:List (List Int)}(h:k.Perm l):bz aT k=bz aT l:=nZ wz ((bw k).trans h) (ib wz k)
section
variable {X:Cx}
open PySem.W
theorem mP(hc:X.calm=ζ):dq X (.builtin "sorted") (λxs H Q=> ∃a zs,xs=[.ref a]/\H a=p5 (.tst zs)/\(∀z∈zs,SqT X.K H z.2 (z.1.map V.int))/\zs.length<64/\(∀z∈zs,z.1≠[])/\
 ∀l (F:eM),H l=ξ->(∀z∈F,z∈zs)->F.map (·.1)=bz aT (zs.map (·.1))->Q (.ref l) (aV H l (.lst (mz F)))):=by
 intro aa s σ H xs vs Q I r h;obtain⟨a,y,rfl,ha,O,hz0,hne0,q⟩:=h;obtain⟨u,rfl,rx⟩:=fE r;cases rx;obtain⟨o,es,ep,t,ho,S⟩:=(show b6 X.prog X.w H s.heap a (.tst y) from I.hok a _ ha)
 obtain⟨zs,pz,ez⟩:=yR sF (jK X.w a ep es) y S.he;have hsq: ∀z∈zs,SqT X.K H z.2 (z.1.map V.int):=λz hz=>O z (pz.mem_iff.mp hz)
 have M: ∀k∈zs.map (·.1),k≠[]:=λk hk=>by
  grind
 have hz:zs.length<64:=by rw[pz.length_eq];omega
 have ky:=Fq hsq;obtain⟨d,R⟩: ∃d,d=zs.map (·.1):=⟨_,rfl⟩
 rw[<-R] at ky M;have lk:d.length=zs.length:=by nofun
 obtain⟨f,L⟩: ∃f,f=zs.map λx=>SQ x.2:=⟨_,rfl⟩
 have W:f.length=d.length:=by nofun
 have rv:cb (mz zs) f:=by grind[rj]
 have sz:es.size=f.length:=by rw[S.toSetAt.size,<-pz.length_eq,W,lk]
 have ST:eS X.w s.heap a es ep t:=⟨o,y,ho,S.toSetAt⟩
 have gi: ∀i,i<d.length-> ∃(b:Addr) (o:Obj) (E:List Sb) (n:Nat),f.getD i Te=.ref b/\s.heap.get? b=p5 o/\o.cls=.type "tuple"/\o.data=.seq E.toArray n/\vf E (d.getD i []):=λi D=>by
  obtain⟨b,U,Z⟩:=Cf ky D;have r1:=nC rv i;rw[U] at r1;obtain⟨E,r',⟨o,ho,hc,n,hd⟩,_⟩:=I.tuple Z;grind[Ll]
 have kt: ∀(g:Heap),(∀c o,s.heap.get? c=p5 o->g.get? c=p5 o)-> ∀(l:List Sb) (B:List (List Int)),l.length=B.length->(∀i,i<B.length-> ∃(b:Addr) (o:Obj) (E:List Sb) (n:Nat),l.getD i Te=.ref b/\s.heap.get? b=p5 o/\o.cls=.type "tuple"/\o.data=.seq E.toArray n/\vf E (B.getD i []))->(∀k∈B,k≠[])->
  ∃N,KatTups g l N/\N.length=l.length/\ ∀v∈N,∃i t,v=Xn i t:=by
  intro g J l
  induction l with
  |nil=>intro B _ _ _;exact⟨[],.nil,rfl,λ_ h=>nomatch h⟩
  |cons v l ih=>
   intro B hl Y hk;cases B with
   |nil=>cases hl
   |cons m B=>
    obtain⟨N,f1,f2,f3⟩:=ih B (by nofun) (λi D=>by simpa using Y (i+1) (by nofun)) λk Tm=>hk k (by simp[Tm])
    obtain⟨b,o,E,n,g1,g2,g3,g4,g5⟩:=Y 0 (by simp);simp[Wc] at g1 g5;subst g1;cases m with
    |nil=>nofun
    |cons x xs=>
     cases g5 with
     |cons y1 y2=>
      obtain⟨t,rfl⟩:=y1;refine⟨_,jeI (J _ _ g2) g3 g4 (by simp;rfl) f1,by simp[f2],λv hv=>?_⟩;grind
 refine zO (us:=f) (G:=λA=>(∀i∈A,i<d.length)/\A.map (λi=>d.getD i [])=bz aT d) (sz▸Ko (es:=es) (ep:=ep) (t:=t)) (λi v D hv=>?_) (I.ok.hd hc) ST (by nofun) (λfew=>⟨λi D=>?_,?_⟩) (λZ g tk J=>?_) (λg tk p e A J hp hG Y=>?_)
 ·obtain⟨e,U,rfl⟩:=hv;rw[<-Tc,ez,Us] at U;obtain⟨x,Z,rfl⟩:=SO.mp U;rw[L,Us,Z];rfl
 ·nofun
 ·rw[W,kU,iN (by nofun)]
 ·obtain⟨N,f1,f2,f3⟩:=kt g J f d W gi M;refine kat_kind (T:=.type "int") f1 ⋯ (λv hv=>?_) (by rfl) ⟨rfl,?_⟩
  ·obtain⟨i,t,rfl⟩:=f3 v hv;exact jeb
  ·rw[W];refine wg (b:=λi j=>aT (d.getD i []) (d.getD j [])) (FP wz _) (by grind) (λi j C D hj hC=>?_) λp P S=>⟨rfl,?_,?_⟩
   ·obtain⟨b1,o1,ts1,n1,x1,x2,x3,x4,x5⟩:=gi i D;obtain⟨b2,o2,ts2,n2,y1,y2,y3,y4,y5⟩:=gi j hj;unfold jaM;rw[x1,y1];refine kat_lt (J _ _ x2) x4 (J _ _ y2) y4 ?_
    refine Cp 0 x5 y5 ?_ hC;have z1:=Vd x5;have z2:=Vd y5;simp[z1,z2]
   ·intro i D;have:=P.perm.mem_iff.mp (Wn.mp D);nofun
   ·exact jn wz P S
 ·have lt: ∀i∈A,i<zs.length:=λi D=>by nofun
  have e1:(A.map λi=>zs.getD i ([],0)).map (·.1)=bz aT (y.map (·.1)):=by
   grind[jU,TC]
  have e2:mz (A.map λi=>zs.getD i ([],0))=A.map λi=>(mz zs).getD i .non:=by
   nofun
  have ll:A.length=y.length:=by
   have:=congrArg Uk e1;rw[Sm,Sm,(bw (lt:=aT) (y.map (·.1))).length_eq,Sm] at this;omega
  have qq:=q p (A.map λi=>zs.getD i ([],0)) (I.hok.fresh hp) (λz hz=>by
   grind) e1
  rw[e2] at qq;refine⟨.ref p,_,I.laid (t':=tk) J hp (show b6 X.prog X.w _ g _ (.lst (A.map λi=>(mz zs).getD i .non)) from⟨?_,_,e,nQ rv A,Y⟩),rfl,qq⟩;grind[TY]
end
theorem b7 {K:Sf}: ∀ {xs:eM},Reps K F (mz xs) (zu xs)-> ∀x∈xs,Rep K F (.ref x.2) (.tup (x.1.map D.int))
 | [],_,x,h=>by nofun
 |y::xs,r,x,h=>by
  cases r with
  |cons r a=>
   rcases SU.mp h with rfl|h
   ·exact r
   ·exact b7 a x h
theorem jh {K:Sf}: ∀ {xs:eM},(∀x∈xs,Rep K F (.ref x.2) (.tup (x.1.map D.int)))->Reps K F (mz xs) (zu xs)
 | [],_=>.nil
 |x::xs,h=>.cons (h x SB) (jh λy a=>h y (Sx _ a))
theorem jc {K:Sf}{ns:List Int}(h:Rep K (vw H hid) (.ref b) (.tup (ns.map D.int))):SqT K H b (ns.map V.int):=by
 obtain⟨b',z,e,_,a,c⟩:=(show dr K H (vw H hid) (.ref b) (.tup (ns.map D.int)) from .inl h).tup;cases e;rw[qj c,SJ] at a;exact a
section
variable {X:Cx}{k:Kd}{fk:FE}{pos apos p:Pos}{x:Str}
def NZ(i:Nat):FS:=λρ=>.nx (ρ.set i (.ob (.tset [])))
theorem IN(i:Nat)(n:X.N.Nodup)(r:X.mg "set"=ξ)(t:X.N[i]? =p5 x:=by rfl)(u:Ed X.env.scope x:=by first|exact TJ rfl|exact Ta rfl)(h:UD (.Call (.Name "set" p) [] [] cpos) (some (.Name x pos')) pos.line X.env=pure false:=by rfl)
 (j:X.fn x=ζ\/X.env.scope.names.lookup x=p5 .local:=by first|exact .inl rfl|exact .inr rfl|assumption) (s:Gl X "set":=by rfl) (hv:TN "set"=some (.type "set"):=by kernel_rfl):DS X c k (.Assign [.Name x pos'] (.Call (.Name "set" p) [] [] cpos) pos) (NZ i):=λρ=>PS.imp (nU n t u (Ac zt s r hv) h j) λD σ H f=>by
 obtain⟨hid,d,q⟩:=f;refine⟨rfl,λa e=>?_⟩;have g:=aM e (.tst []);have l:=d.fresh e;refine q _ _ (bI hid a) (SR.setD (a:=a) (b:=.tset []) (d.hide g e aA) ⟨⟨cQ,d.fresh0 e⟩,[],aA,List.Perm.refl _,.nil⟩ (d.notOw l) i) λb o w=>?_
 obtain⟨v,m⟩:=cc.mp w;refine cc.mpr ⟨?_,g b o m⟩;grind[bI]
def Ib(i:Nat)(fk:FE):FT:=λρ=>(xf i ρ).bind λks=>((fk ρ).bind mi).map λk=>decide (k∈ks)
theorem Jf(i:Nat)(w:X.A.units+1<S7)(u:DP X c k1 e fe)(p:X.N[i]? =p5 y:=by rfl)(l:oe X.env.scope y:=by first|exact TJ rfl|exact Ta (TJ rfl)|exact Ta (Ta rfl))(g:(y==("__debug__":Str))=false:=by decide)
 (h:(y==("__classdict__":Str))=false:=by decide) (x:UG .In (.Name y py)=false:=by rfl):DT X c (.Compare e [.In] [.Name y py] pos) (Ib i fe):=λhid ρ=>
 PT.imp (wB (M0 w (u hid ρ) (pv i p l g h)) x) λσ H Q j=>by
  obtain⟨k,d,g,q⟩:=j;obtain⟨ks,E,g⟩:=Si.mp g;obtain⟨o,C,rfl⟩:=SO.mp g;obtain⟨J,v,B⟩:=Si.mp C;have D:=eO B;subst D;obtain⟨a,xs,t,L,I,s,M,G⟩:=k.setT E;refine⟨k,_,v,λz F m r=>⟨.ref a,t,?_⟩⟩;obtain⟨b,rfl,f⟩:=nV (RK.b k1 r λa n=>k.fresh n);have f:SqT X.K F b (o.map V.int):=by unfold iK at f;rw[SJ] at f;exact f
  refine⟨a,b,xs,o,rfl,rfl,m _ _ s,f,λz hz=>jc ((b7 G z hz).mono (aH m)),_,rfl,?_⟩;grind
def n8(ks:List (List Int))(k:List Int):List (List Int):=if k∈ks then ks else ks++[k]
def oM(ks:List (List Int))(k:List Int):List (List Int):=ks.filter λx=>decide (x≠k)
def Ds(op:List (List Int)->List Int->List (List Int))(i:Nat)(fk:FE):GE:=λρ=>(xf i ρ).bind λks=>((fk ρ).bind mi).bind λk=>if ks.length<=1000 then p5 (.non,ρ.set i (.ob (.tset (op ks k)))) else ξ
theorem ET {zs a:eM}{k:List Int}(h:Op zs k b a)(p:(zs.map (·.1)).Perm ks):(a.map (·.1)).Perm (n8 ks k)/\ ∀z∈a,z∈zs\/z=(k,b):=by
 unfold n8;rcases h with⟨c,rfl⟩|⟨c,d⟩
 ·grind
 grind
theorem Gg {zs a:eM}{k:List Int}(h:OD zs k a)(p:(zs.map (·.1)).Perm ks):(a.map (·.1)).Perm (oM ks k)/\ ∀z∈a,z∈zs:=by
 obtain⟨b,h⟩:=h;unfold oM;have f:=p.filter λx=>decide (x≠k)
 rcases h with⟨d,rfl⟩|⟨i,c,d,rfl⟩
 ·grind
 ·refine⟨?_,λz hz=>YJ hz⟩;refine List.Perm.trans ?_ f;have e:(zs.map (·.1))[i]? =p5 k:=by grind
  rw[<-nr];generalize zs.map (·.1)=l at e b;refine(Tg (Vi (Vn _ _) b) (Vi VM b)).mpr λx=>?_
  rw[Xm,S4,zk];constructor
  ·grind[jaW]
  ·rintro⟨h,m⟩;obtain⟨j,g⟩:=Tz.mp h;grind
theorem Jb(i:Nat)(U:X.A.units+1<S7)(R:DP X c .s e fe)
 (O:X.N[i]? =p5 y:=by rfl) (hv:oe X.env.scope y:=by first|exact TJ rfl|exact Ta (TJ rfl)|exact Ta (Ta rfl)) (Z:(y==("__debug__":Str))=false:=by decide) (p:(y==("__classdict__":Str))=false:=by decide)
 (j:Ve (.Name y py) "add" X.env (eval (.Name y py) X.env)=eval (.Name y py) X.env:=by rfl)
 (l:((Ue pos (Sv [e] X.env)).all (λx=> !x.1)&&(XA pos (VW [] X.env)).all (λx=>x.1.isSome)&&χ ([e].length+([]:List Vv).length+(if([]:List Vv).isEmpty then 0 else 1)<30))=true:=by rfl)
 (k:(apos.endLine==pos.line)=true:=by rfl) (v:Sv [e] X.env=(θ,eval e X.env)::Sv [] X.env:=by rfl) (g:(Ue pos (Sv [] X.env)).any (·.1)=false:=by rfl):
 DE X c .s (.Call (.Attribute (.Name y py) "add" apos) [e] [] pos) (Ds n8 i fe):=λhid ρ=>
 PE.imp (yA Zh PySem.F.slot_set_add PySem.F.type_set_add (Ka U) (pv i O hv Z p) (bn (R hid ρ) bX v) j l k v g) λσ H Q r=>by
  obtain⟨t,d,ρ',f,q⟩:=r;obtain⟨ks,I,f⟩:=Si.mp f;obtain⟨G,W,f⟩:=Si.mp f;obtain⟨dk,S,V⟩:=Si.mp W;split at f
  ·rename_i hz
   cases f;have Y:=eO V;subst Y;obtain⟨a,xs,C,a2,a3,B,J,L⟩:=t.setT I;refine⟨.ref a,C,.inr (.inr (.inr (.inr ⟨rfl,xs,B⟩))),t,_,S,λz H2 m n=>?_⟩;have n:Rep X.K (vw H2 hid) z (.tup (G.map D.int)):=n;obtain⟨b,rfl,E⟩:=nV (.inl n);have E:=jc n;refine⟨a,b,xs,G,rfl,rfl,m _ _ B,E,λz hz=>jc ((b7 L z hz).mono (aH m)),by have:=J.length_eq;nofun,λST u=>?_⟩;obtain⟨T,M⟩:=ET u J;refine q _ _ ⟨λb' o w P=>?_,(t.ext m).putS I C T (jh λz hz=>?_),.non⟩
   ·rw[az λw'=>⋯];exact m _ _ w
   ·rcases M z hz with h|rfl
    ·exact(b7 L z h).mono (aH m)
    omega
  nofun
theorem Jy(i:Nat)(T:X.A.units+1<S7)(P:DP X c .s e fe)
 (M:X.N[i]? =p5 y:=by rfl) (hv:oe X.env.scope y:=by first|exact TJ rfl|exact Ta (TJ rfl)|exact Ta (Ta rfl)) (Y:(y==("__debug__":Str))=false:=by decide) (n:(y==("__classdict__":Str))=false:=by decide)
 (h:Ve (.Name y py) "discard" X.env (eval (.Name y py) X.env)=eval (.Name y py) X.env:=by rfl)
 (k:((Ue pos (Sv [e] X.env)).all (λx=> !x.1)&&(XA pos (VW [] X.env)).all (λx=>x.1.isSome)&&χ ([e].length+([]:List Vv).length+(if([]:List Vv).isEmpty then 0 else 1)<30))=true:=by rfl)
 (j:(apos.endLine==pos.line)=true:=by rfl) (u:Sv [e] X.env=(θ,eval e X.env)::Sv [] X.env:=by rfl) (g:(Ue pos (Sv [] X.env)).any (·.1)=false:=by rfl):
 DE X c .s (.Call (.Attribute (.Name y py) "discard" apos) [e] [] pos) (Ds oM i fe):=λhid ρ=>
 PE.imp (yA Zh PySem.F.slot_set_discard PySem.F.type_set_discard (Jg T) (pv i M hv Y n) (bn (P hid ρ) bX u) h k j u g) λσ H Q p=>by
  obtain⟨r,d,ρ',f,q⟩:=p;obtain⟨ks,G,f⟩:=Si.mp f;obtain⟨E,V,f⟩:=Si.mp f;obtain⟨dk,R,U⟩:=Si.mp V;split at f
  ·rename_i hz
   cases f;have W:=eO U;subst W;obtain⟨a,xs,B,a2,a3,v,I,J⟩:=r.setT G;refine⟨.ref a,B,.inr (.inr (.inr (.inr ⟨rfl,xs,v⟩))),r,_,R,λz H2 l m=>?_⟩;have m:Rep X.K (vw H2 hid) z (.tup (E.map D.int)):=m;obtain⟨b,rfl,C⟩:=nV (.inl m);have C:=jc m;refine⟨a,b,xs,E,rfl,rfl,l _ _ v,C,λz hz=>jc ((b7 J z hz).mono (aH l)),by have:=I.length_eq;grind,λZ t=>?_⟩;obtain⟨S,L⟩:=Gg t I;refine q _ _ ⟨λb' o w O=>?_,(r.ext l).putS G B S (jh λz hz=>?_),.non⟩
   ·rw[az λw'=>⋯];exact l _ _ w
   ·exact(b7 J z (L z hz)).mono (aH l)
  nofun
def Le(i:Nat):FE:=λρ=>(xf i ρ).bind λks=>if ks.length<64/\ ∀k∈ks,k≠[] then p5 (.lst ((bz aT ks).map aQ)) else ξ
theorem IO(i:Nat)(r:X.calm=ζ)(h:X.mg "sorted"=ξ)(v:X.N[i]? =p5 y:=by rfl)(j:oe X.env.scope y:=by first|exact TJ rfl|exact Ta (TJ rfl)|exact Ta (Ta rfl))(b:(y==("__debug__":Str))=false:=by decide)
 (e:(y==("__classdict__":Str))=false:=by decide) (B:Gl X "sorted":=by rfl) (hv:TN "sorted"=p5 (.builtin "sorted"):=by kernel_rfl)
 (t:Sv [.Name y py] X.env=(θ,eval (.Name y py) X.env)::Sv [] X.env:=by rfl) (f:(Ue pos (Sv [] X.env)).any (·.1)=false:=by rfl):DP X c .n (.Call (.Name "sorted" p) [.Name y py] [] pos) (Le i):=λhid ρ=>
 PE.imp (jB (mP r) B h hv (bn (pv i v j b e) bX t) () (by rfl) t f) λσ H Q g=>by
  obtain⟨A,d,b,q⟩:=g;obtain⟨ks,E,b⟩:=Si.mp b;split at b
  ·rename_i hz
   cases b;obtain⟨a,xs,x,G,F,w,k,u⟩:=A.setT E;have C:=k.length_eq;rw[Sm] at C;refine⟨.ref a,x,a,xs,rfl,w,λz hz=>jc (b7 u z hz),by nofun,λz o=>hz.2 _ (k.mem_iff.mp (S6 o)),λl m s h D=>q _ _ (aM s _) (gL s (ab.refl _) ?_)⟩;have:(bz aT ks).map aQ=zu m:=by
    rw[<-jU k,<-D,SJ];rfl
   rw[this];exact jh λz hz=>b7 u z (h z hz)
  nofun
end
def G0(i:Nat)(ρ:aC):Option j9:=match ρ[i]? with
 |some (.ob (.dF kvs))=>p5 kvs
 |_=>ξ
theorem CV(h:G0 i ρ=p5 kvs):ρ[i]? =p5 (.ob (.dF kvs)):=by
 unfold G0 at h;grind
theorem SR.dictF {K:Sf}{c:Ct}{σ:St}(h:SR K c hid ρ σ H)(e:G0 i ρ=p5 kvs): ∃a o us,σ[i]? =p5 (p5 (.ref a))/\hid a=ζ/\c.H₀ a=ξ/\H a=p5 (.frz o (.dT us))/\KRt K (vw H hid) us kvs:=by
 obtain⟨a,b,⟨j,f⟩,o,us,g,k,d⟩:=h.sl i _ (CV e);exact⟨a,o,us,b,j,f,g,k,d⟩
def LS(i:Nat)(ρ:aC):aC:=match nH i ρ with
 |some kvs=>ρ.set i (.ob (.dF kvs))
 |none=>ρ
section
variable {st:Stmt}
theorem Ij(i:Nat)(h:DS X c k st t):DS X c k st (λρ=>t (LS i ρ)):=λρ j s σ H D I l=>by
 obtain⟨hid,d,q⟩:=l;have q:el X.K c k D (vw H hid) (t (LS i ρ)):=q;unfold LS at q;split at q
 ·rename_i kvs e
  obtain⟨a,us,G,f,n,v,A⟩:=d.dictT e;obtain⟨z,y,xs,r,o,es,ep,m,B⟩:=(show b6 X.prog X.w H s.heap a (.dT us) from I.hok a _ v)
  have J: ∀b xs,H b=p5 (.tup xs)->b≠a:=λb xs w e=>by nofun
  have g:b6 X.prog X.w (aV H a (.frz o (.dT us))) s.heap a (.frz o (.dT us)):=⟨m,z,y,xs,Paired.mapP r λp q z=>⟨z.1,by rw[az (J _ _ z.2.1)];exact z.2.1,z.2.2⟩,o,es,ep,m,B⟩
  have F:Inv X j σ (aV H a (.frz o (.dT us))) {s with heap:=s.heap,toks:=s.toks}:=I.write (x:=a) (e:=a) (by rw[v];trivial) (.inl rfl) (λb u _ E=>E) ⟨o,m⟩ g;have C:vw (aV H a (.frz o (.dT us))) hid=vw H hid:=cm f;refine h (ρ.set i (.ob (.dF kvs))) j s σ (aV H a (.frz o (.dT us))) D F ⟨hid,d.putO (fQ e) trivial trivial G (.inl rfl) f n (λ_ e=>by nofun) ⟨⟨f,n⟩,o,us,aA,A.1,by rw[C];exact A.2⟩,?_⟩;nofun
 ·exact h ρ j s σ H D I ⟨hid,d,q⟩
end
def Ru(a:Addr)(o:Obj)(us:List (List bj×V))(ys:List V):It:=⟨λi H=>H a=p5 (.frz o (.dT us))/\i<ys.length,λi H x b=>b=H/\ys[i]? =p5 x,λi H=>H a=p5 (.frz o (.dT us))/\i=ys.length⟩
theorem CG{K:Sf}(a it:Addr){o:Obj}{es:Array jbj}(l:o.ExactDict)(M:o.data=.dict es ep)(C:cb ys (es.toList.map (·.key))):
 rb P w K tg (Ru a o us ys) [it] it (λi h=>h.IsKeyIter it a i es.size ep) where
 mem:=by simp
 obj:=λi h st b f=>by
  have e:b=it:=by simpa using f
  subst e;obtain⟨o,e,c,d⟩:=st;exact⟨o,e,λv z=>by nofun⟩
 keep:=λi h h' st k=>st.at λo e=>k it (by simp) o e
 item:=by
  intro X B hw r J i L s σ H E I n st D;subst B hw r;obtain⟨G,g⟩:=D;have m:=C.length;rw[Sm,SV (xs:=es)] at m;have R:i<es.size:=by nofun
  obtain⟨y,_⟩:=(show b6 X.prog X.w H s.heap a (.frz o (.dT us)) from I.hok a _ G)
  obtain⟨A,F,T,t,p,q⟩:=n it (by simp);obtain⟨u,V,U⟩:=C.get (i:=i) (x:=ys[i]) (Su g);have Q:u=es[i].key:=by
   nofun
  refine Eo st ⟨o,y,l,M⟩ R λh' j S=>?_
  have O:Inv X L σ H {s with heap:=h'}:=I.turned (t':=s.toks) (λb o f e=>(S.2 b f).trans e) A F t p q;obtain⟨o',e,c,d⟩:=id j;exact⟨_,rfl,AO (s:={s with heap:=h'}) e c d (by rfl) ⟨ys[i],H,O,by nofun,⟨rfl,Su g⟩,j,λb f=>(n b f).1⟩⟩
 done:=by
  intro X B hw r J i L s σ H E I n st D;subst B hw r;obtain⟨G,rfl⟩:=D;obtain⟨y,_⟩:=(show b6 X.prog X.w H s.heap a (.frz o (.dT us)) from I.hok a _ G)
  obtain⟨A,F,T,t,p,q⟩:=n it (by simp);have m:=C.length;rw[Sm,SV (xs:=es)] at m;rw[m] at st;exact KG (I.ok.hd J) st ⟨o,y,l,M⟩ λh' N=>⟨rfl,I.turned (t':=s.toks) (λb o f e=>N b o f e) A F t p q⟩
 self:=λ_ _ _ _ _ st h=>wpAny_pyIter_keyiter st h
def Rb(c:TE):TI:=λσ H R=>c σ H λx b=> ∃a o us,x=.ref a/\b a=p5 (.frz o (.dT us))/\ ∀xs,KTd b us xs->R (Ru a o us (xs.map λx=>V.ref x.2.1)) b
theorem GK(t:PE X l tl):PI X tg l (Rb tl):=by
 intro B s σ H R I h;refine bC (t B s σ H _ I h) λv c f=>?_
 obtain⟨x,k,d,y,D⟩:=f;obtain⟨a,o,us,e,C,q⟩:=D;subst e;cases y;obtain⟨j,z,u,xs,r,o',es,ep,m,g,i,n,E⟩:=(show b6 X.prog X.w k c.heap a (.frz o (.dT us)) from d.hok a _ C)
 rw[j] at m;cases m;have p:cb (xs.map λx=>V.ref x.2.1) (es.toList.map (·.key)):=by
  rw[n,SJ];exact AH xs
 refine F3 u ⟨o,j,g,i⟩ ?_
 refine⟨c.heap.objs.size,[c.heap.objs.size],_,_,k,rfl,d.kept (t':=c.toks) λb o e=>Sd _ e,CG a _ g i p,⟨_,Sj _ rfl,rfl,rfl⟩,λb A=>?_,q xs r⟩;have e:b=c.heap.objs.size:=by simpa using A
 subst e;exact d.fpOk (Sn _) (d.hok.fresh (Sn _))
def Fx(i:Nat):FA:=λρ=>(G0 i ρ).bind λkvs=>(ey kvs).map λa=>a.map aQ
section
variable {X:Cx}
theorem J4(i:Nat)(t:X.N[i]? =p5 y:=by rfl)(k:oe X.env.scope y:=by first|exact TJ rfl|exact Ta (TJ rfl)|exact Ta (Ta rfl))(E:(y==("__debug__":Str))=false:=by decide)(b:(y==("__classdict__":Str))=false:=by decide):
 Ks X c tg (.Name y py) (Fx i):=λhid ρ=>PI.imp (GK (pv i t k E b)) λσ H R h=>by
 obtain⟨l,ds,e,q⟩:=h;obtain⟨kvs,G,e⟩:=Si.mp e;obtain⟨I,C,rfl⟩:=SO.mp e;obtain⟨a,o,us,F,S,Q,f,L⟩:=l.dictF G;refine⟨.ref a,F,a,o,us,rfl,f,λxs M=>?_⟩;have z:=Ae M (by rw[L.1];exact rL C);have p:=qk (K:=X.K) l.ht z;have D:=p.length;refine q _ H (ab.refl _) ⟨λj d O A s w=>?_,λO s w=>⟨s _ _ f,D.symm⟩⟩;obtain⟨v,n,B⟩:=p.get A;have g:j<(xs.map λx=>V.ref x.2.1).length:=(Sz.mp n).1;refine⟨⟨s _ _ f,g⟩,λx P ⟨J,m⟩=>?_⟩;subst J;rw[n] at m;cases m;exact⟨ab.refl _,λr _ u=>B.mono u⟩
end
section
variable {X:Cx}{A:Tb}
theorem Mh{k:List bj}(m:A.units+1<S7)(I:Inv X aa σ H s)(e:Rd H a (.dT kvs))(j:SqT X.K H b (k.map kV))(l:dh kvs k=p5 v)
 (h: ∀c s',Inv X aa σ H s'->bS v c->Q c s'):Sy (model X.prog X.w) A (Y7 (.ref a) (.ref b)) Q E s:=by
 obtain⟨z,q,xs,g,i⟩:=mH I.hok e;obtain⟨c,hw,d⟩:=oi.some_of (v:=v) (o:=(Zm xs k).map (·.2)) (by rw[<-l];exact g.val k);obtain⟨p,n,f⟩:=SO.mp hw;refine Yf (TV m) (As I j) i n ?_
 rw[f];exact h c _ (I.tok _) d
end
section
variable {X:Cx}{ty:TE}
def Qn(K:Sf)(e ty:TE):TE:=λσ H Q=>e σ H λx d=>ty σ d λy c=> ∃a b kvs k v,x=.ref a/\y=.ref b/\Rd c a (.dT kvs)/\SqT K c b (k.map kV)/\dh kvs k=p5 v/\Q v c
theorem L6(r:X.A.units+1<S7)(L:PE X o td)(B:PE X i ty)(q:zM i):PE X (.Subscript o i pos) (Qn X.K td ty):=by
 intro f s σ H Q I h;refine wI WC.lookup q (bC (L f s σ H _ I h) λu m ⟨x,E,w,G,F⟩=>bC (B f m σ E _ w F) λt P d=>?_);obtain⟨y,J,e,M,a,b,kvs,k,v,z,C,g,j,n,l⟩:=d;subst z C;obtain rfl:u=SQ a:=G;obtain rfl:t=SQ b:=M;refine⟨?_,Mh r e g j n λO N D c=>⟨v,J,D,c,l⟩⟩;obtain⟨_,_,xs,_,p⟩:=mH e.hok g;exact p.typeIs
end
section
variable {X:Cx}{c:Ct}{k:Kd}{e f:Expr}{fk fv:FE}{pos apos p:Pos}
def MO(i:Nat)(fk:FE):FE:=λρ=>(G0 i ρ).bind λkvs=>((fk ρ).bind mi).bind λk=>cv kvs (iK k)
theorem II(i:Nat)(J:X.A.units+1<S7)(E:DP X c k1 e fe)(x:zM e)(w:X.N[i]? =p5 y:=by rfl)(l:oe X.env.scope y:=by first|exact TJ rfl|exact Ta (TJ rfl)|exact Ta (Ta rfl))(f:(y==("__debug__":Str))=false:=by decide)
 (g:(y==("__classdict__":Str))=false:=by decide):DP X c .s (.Subscript (.Name y py) e pos) (MO i fe):=λhid ρ=>
 PE.imp (L6 J (pv i w l f g) (E hid ρ) x) λσ H Q h=>by
  obtain⟨k,d,f,q⟩:=h;obtain⟨kvs,S,f⟩:=Si.mp f;obtain⟨p,P,f⟩:=Si.mp f;obtain⟨U,F,M⟩:=Si.mp P;have R:=eO M;subst R;obtain⟨a,o,us,D,V,T,C,u⟩:=k.dictF S;refine⟨.ref a,D,k,_,F,λz m j B=>?_⟩;obtain⟨b,rfl,G⟩:=nV (RK.b k1 B λa n=>k.fresh n);have O:Rd m a (.dT us):=.inr ⟨o,j _ _ C⟩;have I:KRt X.K (vw m hid) us kvs:=⟨u.1,u.2.mono (aH j)⟩
  rcases I.val (iK p) with⟨t,r⟩|⟨v,d',t,r,L⟩
  ·nofun
  ·rw[r] at f;cases f;exact⟨a,b,us,iK p,v,rfl,rfl,O,G,t,q _ m j L⟩
def R7(K:Sf)(c:Ct)(hid:bv)(fk:aC->Option (List Int))(ρ:aC):TE:=λσ H Q=>SR K c hid ρ σ H/\ ∃ns,fk ρ=p5 ns/\ ∀b a,ab H a->a b=p5 (.tup (ns.map V.int))->Q (.ref b) a
def DK(X:Cx)(c:Ct)(e:Expr)(fk:aC->Option (List Int)):Prop:= ∀hid ρ,PE X e (R7 X.K c hid fk ρ)
theorem wx {K:Sf}: ∀ {xs:List V} {ns:List Int},Reps K F xs (ns.map D.int)->xs=ns.map V.int
 |_,[],h=>by cases h;rfl
 |_,n::ns,h=>by
  cases h with
  |cons r a=>cases r;rw[wx a];rfl
def jA(f:FE):aC->Option (List Int):=λρ=>(f ρ).bind λd=>match d with
 | .lst ds=>b9 ds
 |_=>ξ
theorem x8(o:DP X c k1 e fe)(s:X.mg "tuple"=ξ)(t:Gl X "tuple":=by rfl)(hv:TN "tuple"=p5 (.type "tuple"):=by kernel_rfl)
 (j:Sv [e] X.env=(θ,eval e X.env)::Sv [] X.env:=by rfl) (f:(Ue pos (Sv [] X.env)).any (·.1)=false:=by rfl):DK X c (.Call (.Name "tuple" p) [e] [] pos) (jA fe):=λhid ρ=>
 PE.imp (dY cO t s hv (bn (o hid ρ) bX j) () (by rfl) j f) λσ H Q g=>by
  obtain⟨h,ns,e,q⟩:=g;obtain⟨d,k,e⟩:=Si.mp e;cases d with
  |lst ds=>
   have m:=cJ e;subst m;refine⟨h,_,k,λv y u w=>?_⟩;obtain⟨a,xs,rfl,i,x⟩:=dr.lst (RK.b k1 w λa n=>h.fresh n);rw[wx x] at i;exact⟨a,_,rfl,.inl ⟨i,λl r=>q l _ (u.trans (aM r _)) aA⟩⟩
  |_=>nofun
def ml(i:Nat)(fk:aC->Option (List Int))(fv:FE):FS:=λρ=>match nH i ρ with
 |some kvs=>(match fv ρ with
  |some d=>(match fk ρ with
   |some ns=>if kvs.length<=1000 then .nx (ρ.set i (.ob (.dT (oT kvs (iK ns) d)))) else .no
   |none=>.no)
  |none=>.no)
 |none=>.no
theorem rB(i:Nat)(F:X.A.units+1<S7){fk:aC->Option (List Int)}(M:DK X c e fk)(hv:DP X c .s ev fv)(x:X.N[i]? =p5 y:=by rfl)(n:oe X.env.scope y:=by first|exact TJ rfl|exact Ta (TJ rfl)|exact Ta (Ta rfl))(L:(y==("__debug__":Str))=false:=by decide)
 (h:(y==("__classdict__":Str))=false:=by decide) (z:UD ev (p5 (.Subscript (.Name y py) e pos')) pos.line X.env=pure false:=by rfl):
 DS X c k (.Assign [.Subscript (.Name y py) e pos'] ev pos) (ml i fk fv):=λρ=>PS.imp (Iy F (pv i x n L h) (ny λhid=>M hid ρ) (ny λhid=>hv hid ρ) z) λD σ H m=>by
 obtain⟨hid,g,q⟩:=m;unfold ml at q;split at q
 ·rename_i kvs w
  split at q
  ·rename_i d I
   split at q
   ·rename_i ns O
    split at q
    ·rename_i hz
     obtain⟨a,us,r,G,Q,B,o⟩:=g.dictT w;refine⟨hid,g,d,I,λv C p J=>⟨.ref a,r,hid,g.ext p,ns,O,λb P u E=>?_⟩⟩;have f:=p.trans u;have j:P b=p5 (.tup ((iK ns).map kV)):=by rw[E];unfold iK;rw[SJ];rfl
     refine⟨a,_,rfl,u6.t (k:=iK ns) (f _ _ B) j (by rw[o.len];exact SK hz ()),?_⟩;have l:Rep X.K (vw C hid) v d:=J;refine q _ _ hid ((g.ext f).putDT w r (KRt.put (iK ns) (l.mono (aH u)) ⟨o.1,o.2.mono (aH f)⟩)) ?_
     rw[cm G];exact aH f
    ·exact q.elim
   ·exact q.elim
  ·exact q.elim
 ·exact q.elim
def ur(i:Nat)(fk:aC->Option (List Int))(a:FE):FE:=λρ=>(nH i ρ).bind λkvs=>(fk ρ).bind λns=>(a ρ).map λd=>(cv kvs (iK ns)).getD d
theorem Hr(i:Nat)(M:X.A.units+1<S7){fk:aC->Option (List Int)}(G:DK X c e fk)(S:DP X c .s f ff)(m:M2 X (.Name y py) "get" apos e f cpos)(E:X.N[i]? =p5 y:=by rfl)(x:oe X.env.scope y:=by first|exact TJ rfl|exact Ta (TJ rfl)|exact Ta (Ta rfl))(h:(y==("__debug__":Str))=false:=by decide)
 (l:(y==("__classdict__":Str))=false:=by decide):DP X c .s (.Call (.Attribute (.Name y py) "get" apos) [e,f] [] cpos) (ur i fk ff):=λhid ρ=>
 PE.imp (FM M (pv i E x h l) (G hid ρ) (S hid ρ) m) λσ H Q o=>by
  obtain⟨p,d,h,q⟩:=o;obtain⟨kvs,R,h⟩:=Si.mp h;obtain⟨ns,P,h⟩:=Si.mp h;obtain⟨V,T,rfl⟩:=SO.mp h;obtain⟨a,us,F,W,U,B,D⟩:=p.dictT R;refine⟨.ref a,F,a,rfl,.inr ⟨us,.inl B⟩,p,ns,P,λb Y C I=>⟨p.ext C,_,T,λw j z L=>?_⟩⟩;have g:=C.trans z;have J:KRt X.K (vw j hid) us kvs:=⟨D.1,D.2.mono (aH g)⟩
  have n:j b=p5 (.tup ((iK ns).map kV)):=by rw[z _ _ I];unfold iK;rw[SJ];rfl
  refine⟨_,qs.t (k:=iK ns) (g _ _ B) n,q _ j g ?_⟩;rcases J.val (iK ns) with⟨u,r⟩|⟨v,d,u,r,O⟩
  ·rw[u,r];exact L
  ·rw[u,r];exact O
end
section
variable {X:Cx}{s:Sc}
theorem Inv.re(I:Inv X aa σ H s)(e:H d=p5 u)(c:ME (p5 u))(t: ∀a,b6 X.prog X.w a s.heap d u->b6 X.prog X.w a s.heap d u'):Inv X aa σ (aV H d u') s:=by
 have f: ∀b xs,H b=p5 (.tup xs)->b≠d:=λb xs q z=>by subst z;rw[e] at q;cases q;exact c
 have no: ∀b y,H b=p5 (.own y)->b≠d:=λb xs q z=>by subst z;rw[e] at q;cases q;exact c
 have q:=I.hok d u e;obtain⟨o,g⟩:=q.there;exact I.write (x:=d) (e:=d) (t':=s.toks) (h':=s.heap) (by nofun) (.inl rfl) (λb v _ hv=>hv) ⟨o,g⟩ (t _ (q.stay (λb v _ h=>h) (λb h=>by rw[az (no b _ h)];exact h) λb xs h=>by rw[az (f b xs h)];exact h))
theorem Inv.nest(I:Inv X aa σ H s)(e:H d=p5 u)(a:ME (p5 u)):Inv X aa σ (aV H d (.nst p u)) s:=I.re e a λ_ h=>h
theorem Inv.unnest(I:Inv X aa σ H s)(e:H d=p5 (.nst p u)):Inv X aa σ (aV H d u) s:=I.re e trivial λ_ h=>h
end
section
variable {K:Sf}{c:Ct}
theorem Paired.get {α β:Type}{F:α->β->Prop}: ∀ {l₁:List α} {a:List β} {i:Nat} {y:β},Paired F l₁ a->a[i]? =p5 y-> ∃x,l₁[i]? =p5 x/\F x y
 |_,_,_,_,.nil,e=>by simp at e
 |_,_,0,_,.cons r _,e=>by nofun
 |_,_,i+1,y,.cons _ t,e=>by
  obtain⟨u,b,c⟩:=Paired.get (i:=i) (y:=y) t (by simpa using e);nofun
theorem Paired.setN: ∀ {bs:List Addr} {us:List NO} {i:Nat} {d:Addr} {u':NO},bs.Nodup->Paired F bs us->bs[i]? =p5 d->G d u'->(∀b u,b≠d->F b u->G b u)->Paired G bs (us.set i u')
 |_,_,_,_,_,_,.nil,e,_,_=>by simp at e
 |_,_,0,d,u',n,.cons r t,e,g,k=>by
  simp at e;subst e;refine .cons g ?_
  have a:=(TW.mp n).1;clear r n g
  induction t with
  |nil=>exact .nil
  |cons c t' h=>
   rw[SU,not_or] at a;exact .cons (k _ _ (λe=>a.1 e.symm) c) (h a.2)
 |b::bs,_,i+1,d,u',n,.cons r t,e,g,k=>by
  have f:bs[i]? =p5 d:=by simpa using e
  refine .cons (k _ _ (λz=>?_) r) (Paired.setN (TW.mp n).2 t f g k);grind[S5]
theorem NOk.at(h:NOk K c hid H a b u):(hid b=ζ/\c.H₀ b=ξ)/\ ∃o,H b=p5 (.nst a o):=by
 cases u with
 |l ds=>obtain⟨d,_,e,_⟩:=h;exact⟨d,_,e⟩
 |k kvs=>obtain⟨d,_,e,_⟩:=h;exact⟨d,_,e⟩
end
section
variable {K:Sf}{c:Ct}{ρ:aC}{σ:St}{H:Hp}
theorem sO(h:eQ hid x b=ζ):hid b=ζ/\b≠x:=by
 unfold eQ at h;nofun
theorem iM(n:b≠x):eQ hid x b=hid b:=by unfold eQ;simp[n]
theorem jN(d:hid x=ζ):ab (vw H hid) (vw (aV H x u') (eQ hid x)):=λb o q=>by
 obtain⟨c,a⟩:=cc.mp q;have n:b≠x:=λe=>by nofun
 exact cc.mpr ⟨by rw[iM n];exact c,by rw[az n];exact a⟩
theorem Hh:vw (aV H x u') (eQ hid x) x=p5 u':=cc.mpr ⟨by grind[eQ],aA⟩
theorem SR.reveal {u':HO}(h:SR K c hid ρ σ H)(B:hid x=ζ)(C:c.H₀ x=ξ)(no: ∀(i:Nat) a,Ow ρ[i]? ->σ[i]? =p5 (p5 (.ref a))-> ¬At H a x):SR K c (eQ hid x) ρ σ (aV H x u'):=by
 have l:ab (vw H hid) (vw (aV H x u') (eQ hid x)):=jN B;have A: ∀b o,c.H₀ b=p5 o->b≠x:=λb o q e=>by nofun
 have p: ∀(i:Nat) (s:Sl) (a y:Addr),ρ[i]? =p5 s->Ow (p5 s)->σ[i]? =p5 (p5 (.ref a))->At H a y->y≠x:=λi s a y e o q k z=>by
  subst z;exact no i a (by nofun) q k
 refine⟨λb j=>?_,λb xs j=>?_,λb j=>?_,λb o q m=>by rw[az (A b o q)];exact h.kp b o q m,λb o q=>by rw[az (A b o q)];exact h.t0 b o q,h.c0,h.m0,h.len,λi s e=>?_,h.ap⟩
 ·obtain⟨f,g⟩:=sO j;rw[az g];exact h.tr b f
 ·obtain⟨f,g⟩:=sO j;rw[az g];exact h.ht b xs f
 ·obtain⟨o,q⟩:=h.c0 b j;rw[iM (A b o q)];exact h.h0 b j
 ·have z:=h.sl i s e;cases s with
  |no=>trivial
  |v d=>obtain⟨x,f,g⟩:=z;exact⟨x,f,g.mono l⟩
  |own ds=>
   obtain⟨a,xs,f,g,t,u,r⟩:=z;have n:=p i _ a a e trivial f (.inl rfl);exact⟨a,xs,f,by rw[az n];exact g,by rw[iM n];exact t,u,r.mono l⟩
  |arg ds=>
   obtain⟨a,xs,f,g,t,u,r⟩:=z;have n:=p i _ a a e trivial f (.inl rfl);exact⟨a,xs,f,by rw[az n];exact g,by rw[iM n];exact t,u,r.mono l⟩
  |ob b=>
   obtain⟨a,f,g⟩:=z;exact⟨a,f,g.mono (λw y k o q=>by rw[az (p i _ a y e w f k)];exact q) l λw y k q=>by rw[iM (p i _ a y e w f k)];exact q⟩
theorem SR.mark {i:Nat}{s:Sl}(h:SR K c hid ρ σ H)(g:u5 K c hid σ H i s)(no: ¬Ow (p5 s)):SR K c hid (ρ.set i s) σ H:=by
 have b: ∀j:Nat,Ow (ρ.set i s)[j]? ->Ow ρ[j]? :=λj o=>by
  by_cases e:j=i
  ·subst e
   by_cases lt:j<ρ.length
   ·nofun
   grind
  ·rw[SD (S9 e)] at o;exact o
 refine⟨h.tr,h.ht,h.h0,h.kp,h.t0,h.c0,h.m0,by simp[h.len],λj s' e=>?_,λj l z n f d=>h.ap j l z n (b j f) (b l d)⟩
 by_cases a:j=i
 ·subst a;grind
 ·rw[SD (S9 a)] at e;exact h.sl j s' e
theorem SR.kind {j:Nat}(h:SR K c hid ρ σ H)(e:ρ[j]? =p5 s)(o:Ow (p5 s))(q:σ[j]? =p5 (p5 (.ref a))): ∃u,H a=p5 u/\ ∀p v,u≠ .nst p v:=by
 have z:=h.sl j s e;cases s with
 |no=>exact o.elim
 |v d=>exact o.elim
 |own ds=>obtain⟨i,xs,f,g,_⟩:=z;grind
 |arg ds=>obtain⟨i,xs,f,g,_⟩:=z;nofun
 |ob b=>obtain⟨i,f,g⟩:=z;rw[q] at f;cases f;exact g.kind o
end
def RJ:NO->Option (List D)
 | .l ds=>p5 ds
 |_=>ξ
theorem Paired.mem {α β:Type}{F:α->β->Prop}: ∀ {l₁:List α} {a:List β} {x:α},Paired F l₁ a->x∈l₁-> ∃y,F x y
 |_,_,_,.nil,e=>by nofun
 |_,_,_,.cons r t,e=>by
  rcases SU.mp e with rfl|e
  ·exact⟨_,r⟩
  ·exact Paired.mem t e
theorem Paired.off {α β:Type}{F G:α->β->Prop}: ∀ {l₁:List α} {a:List β},Paired F l₁ a->(∀x y,x∈l₁->F x y->G x y)->Paired G l₁ a
 |_,_,.nil,_=>.nil
 |_,_,.cons r t,k=>.cons (k _ _ SB r) (Paired.off t λx y h=>k x y (Sx _ h))
section
variable {X:Cx}{c:Ct}{σ:St}{s:Sc}{a:Addr}{β:Type}{conv:NO->Option β}{R:Hp->Addr->β->Prop}
def Ly(X:Cx)(c:Ct)(e:List (Addr×Obj))(σ:St)(s:Sc)(conv:NO->Option β)(R:Hp->Addr->β->Prop):Prop:=
 (∀W d b v,ab W d->R W b v->R d b v)/\ ∀hid H a b u v,NOk X.K c hid H a b u->conv u=p5 v->Inv X e σ H s-> ∃u',(∀p w,u'≠ .nst p w)/\Inv X e σ (aV H b u') s/\ ∀W,W b=p5 u'->ab (vw H hid) W->R W b v
theorem Kf:Ly X c aa σ s RJ (λW b ds=>Rep X.K W (.ref b) (.lst ds)):=by
 refine⟨λW j b v d h=>h.mono d,λhid H a b u v n e I=>?_⟩;cases u with
 |k ds=>cases e
 |l kvs=>
  cases e;obtain⟨_,us,f,i⟩:=n;exact⟨.lst us,nofun,I.unnest f,λW g d=>.lst g (i.mono d)⟩
theorem DU(L:Ly X c aa σ s conv R): ∀ {bs:List Addr} {us:List NO} {vs:List β} {hid:bv} {H:Hp},Paired (NOk X.K c hid H a) bs us->us.mapM conv=p5 vs->bs.Nodup->(∀b∈bs,∀(i:Nat) k,Ow ρ[i]? ->σ[i]? =p5 (p5 (.ref k))-> ¬At H k b)->
 Inv X aa σ H s->SR X.K c hid ρ σ H-> ∃f d,Inv X aa σ f s/\SR X.K c d ρ σ f/\ab (vw H hid) (vw f d)/\Paired (R (vw f d)) bs vs/\(∀y,y∉bs->f y=H y/\d y=hid y)/\ ∀y p w,f y=p5 (.nst p w)->H y=p5 (.nst p w):=by
 intro bs
 induction bs with
 |nil=>
  intro us vs hid H D e N no I m;cases D;cases e;exact⟨H,hid,I,m,ab.refl _,.nil,λy _=>⟨rfl,rfl⟩,λ_ _ _ q=>q⟩
 |cons b bs U=>
  intro us vs hid H D e N no I m;cases D
  rename_i u us r t;rw[jcV] at e;obtain⟨v,V,e⟩:=Si.mp e
  obtain⟨W,Z,e⟩:=Si.mp e;cases e;obtain⟨u',n',Q,hR⟩:=L.2 hid H a b u v r V I;have G:=r.at.1;have A:=m.reveal (u':=u') G.1 G.2 (no b SB);have h:ab (vw H hid) (vw (aV H b u') (eQ hid b)):=jN G.1;obtain⟨nb,B⟩:=TW.mp N;have g: ∀y p w,aV H b u' y=p5 (.nst p w)->H y=p5 (.nst p w):=λy p w q=>by
   grind[aA,az]
  have T:Paired (NOk X.K c (eQ hid b) (aV H b u') a) bs us:=by
   refine Lake.Paired.off t λF u2 P M=>?_
   have J:F≠b:=λz=>by nofun
   exact M.mono (λw q=>by rw[az J];exact q) h λ_=>by rw[iM J];exact M.at.1.1
  obtain⟨f,d,S,x,j,C,O,F⟩:=U T Z B (λb' E i k o q n=>no b' (Sx _ E) i k o q (n.imp id λ⟨w,hw⟩=>⟨w,g _ _ _ hw⟩)) Q A;refine⟨f,d,S,x,h.trans j,.cons (L.1 _ _ _ _ j (hR _ Hh h)) C,λy l=>?_,λy p w q=>g _ _ _ (F y p w q)⟩;rw[SU,not_or] at l;obtain⟨Y,k4⟩:=O y l.2;exact⟨Y.trans (az l.1),k4.trans (iM l.1)⟩
theorem EE(e:H x=p5 o):aV H x o=H:=by
 funext b;grind[aA,az]
end
section
variable {X:Cx}
theorem vL {ρ:aC}:(ρ.set i a).set i b=ρ.set i b:=by simp
theorem tO: ∀ {bs:List Addr} {l:List (List D)},Paired (λb ds=>Rep X.K W (.ref b) (.lst ds)) bs l->Reps X.K W (bs.map V.ref) (l.map D.lst)
 |_,_,.nil=>.nil
 |_,_,.cons r t=>.cons r (tO t)
end
theorem Paired.app1 {α β:Type}{F:α->β->Prop}{x:α}{y:β}(h:F x y): ∀ {l₁:List α} {a:List β},Paired F l₁ a->Paired F (l₁++[x]) (a++[y])
 |_,_,.nil=>.cons h .nil
 |_,_,.cons r t=>.cons r (Paired.app1 h t)
end
end Lake
namespace PySem
noncomputable section
open PySem PySem.Spec PyProof.Rows
section
theorem rY(c:s.heap.get? l=p5 {cls:=.type "list",data:=.seq us n})
 (h: ∀g,XN g (s.heap.objs.size+1) s.heap.objs.size 0 .none->g.IsListIter s.heap.objs.size l 0->g.objs.size=s.heap.objs.size+2->(∀b o,s.heap.get? b=p5 o->g.get? b=p5 o)->Q (.ref (s.heap.objs.size+1)) {s with heap:=g}):
 Sy (model prog w) A (call (.type "enumerate") [.ref l]) Q E s:=by
 refine callType_new jae (by rfl) (Zf _) (Zv _) (λobj=>ZK obj _) Zw (meets_enumerate_new l us n) ⟨c,?_⟩;have hz:(s.heap.push {cls:=.type "list_iterator",data:=.fields #[.ref l,.int 0 0]}).objs.size=s.heap.objs.size+1:=UJ ..;show _/\_;rw[hz];have a:XN ((s.heap.push {cls:=.type "list_iterator",data:=.fields #[.ref l,.int 0 0]}).push {cls:=.type "enumerate",data:=.fields #[.none,.bool θ,.ref s.heap.objs.size,VY 0,.none,.none]}) (s.heap.objs.size+1) s.heap.objs.size 0 .none:=by
  have:=Sj (s.heap.push {cls:=.type "list_iterator",data:=.fields #[.ref l,.int 0 0]}) (o:={cls:=.type "enumerate",data:=.fields #[.none,.bool θ,.ref s.heap.objs.size,VY 0,.none,.none]}) rfl;rw[hz] at this;omega
 exact⟨⟨_,a,rfl⟩,h _ a ⟨_,Sd _ (Sj _ rfl),rfl,rfl⟩ (by simp) λb o x=>Sd _ (Sd _ x)⟩
end
end
end PySem
namespace Lake
noncomputable section
open PySem PySem.Spec PyProof.Rows
def RD(K:Sf)(a:Addr):It:=
 ⟨λi H=> ∃xs x,SqL K H a xs/\xs[i]? =p5 x,λi H x b=> ∃T,x=.ref T/\H T=ξ/\ ∀xs,SqL K H a xs-> ∃y,xs[i]? =p5 y/\b=aV H T (.tup [.int i,y]),λi H=> ∃xs,SqL K H a xs/\xs.length<=i⟩
theorem zw{K:Sf}{x1}(a it e:Addr)(r:e≠it):rb P w K (.Tuple es x1 pos) (RD K a) [e,it] e (λi h=>(∃old,XN h e it i old)/\h.IsListIter it a i) where
 mem:=by simp
 obj:=λi h st b d=>by
  obtain⟨⟨old,f⟩,o,ho,M,hd⟩:=st;grind
 keep:=λi h h' st k=>by
  obtain⟨⟨old,f⟩,c⟩:=st;exact⟨⟨old,k e (by simp) _ f⟩,c.at λo x=>k it (by simp) o x⟩
 item:=by
  intro X U hw R M i C s σ H E I G st W;subst U hw R;obtain⟨xs,x,D,N⟩:=W;obtain⟨Z,V,p,hz⟩:=I.list D;obtain⟨u,hu,ru⟩:=V.get N;obtain⟨⟨old,f⟩,c⟩:=st;obtain⟨e0,e1,e2,e3,e4,e5⟩:=G e (by simp);obtain⟨F,Y,f2,S,O,Q⟩:=G it (by simp);have ht:=p.isList;refine wpAny_pyNext_enum_item (x:=u) f c ht (by simpa using hu) r λg v m hT hsz hk=>⟨_,rfl,?_⟩
  refine Ye v λg' ST j=>?_
  have n:e<s.heap.objs.size:=Sw f;have k2: ∀b o,b≠e->b≠it->s.heap.get? b=p5 o->g'.get? b=p5 o:=λb o h1 h2 h3=>(j.2 b h1).trans (hk b o h1 h2 h3)
  have hT':g'.get? s.heap.objs.size=p5 {cls:=.type "tuple",data:=.seq #[.int i s.toks,u]}:=(j.2 _ (Uc n)).trans hT;have hn:H s.heap.objs.size=none:=I.hok.fresh (Sn _);have L:Inv X C σ (aV H s.heap.objs.size (.tup [.int i,x])) {s with heap:=g',toks:=s.toks+1}:=by
   obtain⟨B,hoi,hci,T⟩:=id (show g'.IsListIter it a (i+1) from m.at λo y=>(j.2 it (S9 r)).trans y);obtain⟨os0,l,_⟩:=id c;have Tm:it<s.heap.objs.size:=Sw l;have I0:Inv X C σ (aV H s.heap.objs.size (.tup [.int i,x])) {s with heap:=s.heap.push {cls:=.type "tuple",data:=.seq #[.int i s.toks,u]},toks:=s.toks+1}:=
    I.laid (t':=s.toks+1) (λb o q=>Sd _ q) (Sn _) (show b6 X.prog X.w _ _ _ (.tup [.int i,x]) from
     ⟨UV (fT (by simp)),[.int i s.toks,u],.cons ⟨_,rfl⟩ (.cons ru .nil),⟨_,Sj _ rfl,rfl,_,rfl⟩,_,Sj _ rfl,rfl⟩)
   have u1:((s.heap.push {cls:=.type "tuple",data:=.seq #[.int i s.toks,u]}).update it λ_=>B).get? it=p5 B:=Ti (λ_=>B) (Sd _ l) (UQ T);have L:Inv X C σ (aV H s.heap.objs.size (.tup [.int i,x])) {s with heap:=(s.heap.push {cls:=.type "tuple",data:=.seq #[.int i s.toks,u]}).update it λ_=>B,toks:=s.toks+1}:=
    I0.turned (t':=s.toks+1) (λb o d q=>(Um _ _ (S9 d)).trans q) (by rw[az (SW Tm)];exact F) Y S O Q
   refine L.turned (t':=s.toks+1) (λb o d q=>?_) (by rw[az (SW n)];exact e0) e1 e3 e4 e5
   by_cases t:b=it
   ·nofun
   ·have J:((s.heap.push {cls:=.type "tuple",data:=.seq #[.int i s.toks,u]}).update it λ_=>B).get? b=p5 o:=q;rw[Um _ _ (S9 t)] at J
    by_cases A:b=s.heap.objs.size
    ·subst A;rw[Sj _ rfl] at J;nofun
    ·rw[Yt _ _ _ A] at J;exact k2 b o d t J
  refine⟨.ref s.heap.objs.size,aV H s.heap.objs.size (.tup [.int i,x]),L,rfl,⟨_,rfl,hn,λys hy=>⟨x,by rw[I.list_inj hy D];exact N,rfl⟩⟩,⟨⟨u,by simpa using ST⟩,m.at λo y=>(j.2 it (S9 r)).trans y⟩,λb d=>?_⟩;rcases SU.mp d with rfl|d
  ·rw[az (SW n)];exact e0
  ·have:b=it:=by simpa using d
   subst this;obtain⟨o,ho,_⟩:=c;rw[az (SW (Sw ho))];exact F
 done:=by
  intro X U hw R M i C s σ H E I G st W;subst U hw R;obtain⟨xs,D,N⟩:=W;obtain⟨Z,V,p,hz⟩:=I.list D;obtain⟨⟨old,f⟩,c⟩:=st;obtain⟨F,Y,f2,S,O,Q⟩:=G it (by simp);have hl:=V.length;have hh:=I.ok.hd M;refine wpAny_pyNext_enum_end hh f c p.isList (by nofun) λg k=>⟨rfl,I.turned (t':=s.toks) (λb o d z=>k b o d z) F Y S O Q⟩
 self:=λ_ _ _ _ _ st h=>let⟨⟨_,f⟩,_⟩:=st;W6 f h
section
variable {X:Cx}{p:Pos}
def sA(f:FE):FA:=λρ=>(f ρ).bind λd=>match d with
 | .lst ds=>p5 (mK ds)
 |_=>ξ
theorem AC {K:Sf}(b:SqL K W a xs)(c:Reps K W xs ds):rl K W (RD K a) (mK ds):=by
 have l:=c.length;have m:(mK ds).length=ds.length:=by simp[mK]
 refine⟨λi d H e s=>?_,λH s=>⟨_,ab.seq s b,by nofun⟩⟩;have x:i<ds.length:=by rw[<-m];exact(Sz.mp e).1
 have j:xs[i]? =p5 xs[i]:=Su (by nofun);refine⟨⟨_,xs[i],ab.seq s b,j⟩,λy v ⟨T,t,f,q⟩=>?_⟩;subst t;obtain⟨z,k,n⟩:=q _ (ab.seq s b);subst n;refine⟨aM f _,λhid h g=>?_⟩;have r:hid T=false:=by
  cases eh:hid T with
  |false=>rfl
  |true=>obtain⟨o,A⟩:=h T eh;nofun
 obtain⟨d',w,u⟩:=c.get' k;have p:d=.tup [.int i,d']:=by
  unfold mK at e;nofun
 rw[p];exact h9 f r (.cons .int (.cons (u.mono g) .nil))
theorem tG {a:Expr}(h:DP X c .s a f)(L:X.mg "enumerate"=ξ)(M:Gl X "enumerate":=by rfl)(y:Sv [a] X.env=[(θ,eval a X.env)]:=by rfl):DIp X c (.Tuple es x1 tp) (.Call (.Name "enumerate" p) [a] [] pos) (sA f):=by
 intro hid ρ D s σ H R I E;obtain⟨G,ds,x,q⟩:=E;unfold sA at x;cases e1:f ρ with
 |none=>nofun
 |some z=>
  rw[e1] at x;cases z with
  |lst us=>
   cases x;refine Call_ (jy (u:=.type "enumerate") I M L (by rfl) (UF (bC (bn (h hid ρ) bX y pos D s σ H (λvs m=> ∃v,vs=[v]/\ab H m/\Rep X.K (vw m hid) v (.lst us)) I ⟨G,_,e1,λv m s' r=>⟨v,rfl,s',r⟩⟩) λvs i ⟨T,k,d,N,w,e,s',r⟩=>?_) y rfl));subst e;cases N with
   |cons J F=>
    cases F;cases r with
    |lst B O=>
     cases J;have t:SqL X.K (vw k hid) _ _:=SqL.of B;obtain⟨P,n,S,C,hz⟩:=d.lst (cu _ _ _ _ B);refine rY C λg A j hsz Q=>?_
     refine W6 A ⟨_,[i.heap.objs.size+1,i.heap.objs.size],_,_,k,rfl,d.kept (t':=i.toks) λb o e=>Q b o e,zw _ _ _ (Uc (Wt _)),⟨⟨_,A⟩,j⟩,λb l=>?_,q _ k s' (AC t O)⟩;rcases SU.mp l with rfl|l
     ·exact d.fpOk (XB _) (d.hok.fresh (XB _))
     ·have:b=i.heap.objs.size:=by simpa using l
      subst this;exact d.fpOk (Sn _) (d.hok.fresh (Sn _))
  |_=>nofun
end
set_option maxHeartbeats 1000000
open PySem PyProof.Rows
set_option maxHeartbeats 2000000
set_option maxHeartbeats 1000000
open PySem PySem.W PySem.Calls PyProof.Rows
open PySem PySem.W PyProof.Rows
section
variable {b:Addr}{es:Array (Int×Sb)}{t:TK}{xs:eM}
theorem ED(S:SetAt w o es ep t xs){q c:Nat}(y:3<=q)(m:q<=12)(C:c+1=2^q)(f g:Nat)(u:xs.length*5<c*3): ∃(b a:Array Nat),Yy c f g t.led t.plain (es.map (·.1))=p5 (⟨c,b, #[],f,t.led,g,t.plain⟩,a)/\
 a.toList.Perm (R9 xs.length)/\(∀(o':Obj) (d:Nat),o'.ExactSet->o'.data=.set (a.filterMap (es[·]?)) d ⟨c,b, #[],f,t.led,g,t.plain⟩->
  cp w o' (a.filterMap (es[·]?)) d ⟨c,b, #[],f,t.led,g,t.plain⟩ (pb xs a.toList))/\(a.filterMap (es[·]?)).size=es.size:=by
 have s:(es.map (·.1)).size=xs.length:=by rw[jck,S.size]
 obtain⟨b,a,D,e,r⟩:=Bl y m C f g t.led t.plain (es.map (·.1)) (by rw[s];grind);rw[s] at e;have lt: ∀i∈a.toList,i<xs.length:=λi j=>SE.mp (e.mem_iff.mp j)
 have v:(a.filterMap (es[·]?)).toList=(pb xs a.toList).map sF:=by
  rw[Y2];unfold pb;rw[SJ];have h: ∀l:List Nat,(∀i∈l,i<xs.length)->l.filterMap (λi=>es[i]?)=l.map (sF∘λi=>xs.getD i ([],0)):=by
   intro l
   induction l with
   |nil=>intro _;rfl
   |cons i l E=>
    intro u;have x:=u i SB;have F:es[i]? =p5 (sF (xs.getD i ([],0))):=by
     rw[S.at_,Su x];nofun
    grind
  exact h _ lt
 have A:rn (pb xs a.toList)=a.toList.map λk=>(es.map (·.1)).toList.getD k 0:=by
  unfold rn pb;rw[SJ];refine TC λi j=>?_
  have:=lt i j;rw[sZ S];show th (xs.getD i ([],0)).1=(rn xs).getD i 0;unfold rn;grind[Wc]
 have p:=jL e;refine⟨b,a,D,e,λo' d n B=>?_,?_⟩
 ·refine⟨⟨n,B,v,by rw[A];exact r,S.led,S.pl,?_⟩,?_⟩
  ·exact((p.map (·.1)).nodup_iff).mpr S.nd
  ·have z:=r.sz;rw[Sm,e.length_eq,T8] at z;show(b.size+0)*5<c*3;nofun
 ·rw[<-SV,v,Sm,p.length_eq,S.size]
theorem J2(i:s.heap.get? a=p5 o)(S:cp w o es ep t [])(j:t.fill=0)(O:n<=1000)
 (h: ∀h' o' g f t',S8 a s.heap h'->h'.get? a=p5 o'->cp w o' g f t' []->t'.fill=0->n*5<t'.mask*3->Q Unit.unit {s with heap:=h'}):Sy (model prog w) A (jcW a n) Q E s:=by
 unfold jcW;have l:=S.toSetAt;refine R8 (Ts i S.hd l.fits ?_);dsimp only;have H:t.place.size=0:=by have:=l.T.sz;simpa [rn] using this
 unfold SetTable.roomFor;rw[j,H,XY]
 by_cases c:n*5≥t.mask*3
 ·rw[if_pos c];dsimp only;have hw:n*2<=4095:=by grind
  have P:7<=t.mask:=by
   obtain⟨q,B,_,V⟩:=S.T.pw;have U:2^3<=2^q:=Uj (by simp) B;lia
  obtain⟨d,b,m,C,x,y,u⟩:=ud l hw (by show 0*5<_;omega);obtain⟨q,R,p,e,M⟩:=iI hw
  have N:setRelay a (n*2)=(do
   let(es,_,t) <-jax a
   if TB (n*2)>SC then UL "set:memory"
   let(es,t) <-(do
    let some (t,b):=t.relaid (es.map (·.1)) (n*2)|UL "internal:set-table-without-room"
    let g:=b.filterMap (es[·]?)
    if g.size !=es.size then UL "internal:set-table-lost-an-element"
    pure (g,t):Sem (Array (Int×Sb)×TK))
   jcl a es t):=rfl
  rw[N];refine R8 (Ts i S.hd l.fits ?_);dsimp only;have J:2^q<=2^12:=Uj (by simp) p;have K:(2:Nat)^12=4096:=by simp
  rw[if_neg (by rw[e,TY];omega),C];dsimp only;rw[u,bne_self_eq_false];simp only[SF,if_false];refine R8 (Sa ?_);dsimp only;have D:(b.filterMap (es[·]?)).size<=sizeLine:=by
   rw[u,l.size,TY];simp
  refine Vu i S.hd ?_ D;have v:=Ti (WR (b.filterMap (es[·]?)) ⟨TB (n*2) -1,d, #[],t.finger,t.led,m,t.plain⟩) i (by rw[VR _ _ S.hd];rfl);rw[VR _ _ S.hd] at v;have r:b.toList=[]:=by
   have:=x.length_eq;simp at this;simpa using this
  have I:pb ([]:eM) b.toList=[]:=by rw[r];rfl
  have k: ∀(o':Obj) (f:Nat),o'.ExactSet->o'.data=.set (b.filterMap (es[·]?)) f ⟨TB (n*2) -1,d, #[],t.finger,t.led,m,t.plain⟩->cp w o' (b.filterMap (es[·]?)) f ⟨TB (n*2) -1,d, #[],t.finger,t.led,m,t.plain⟩ []:=λo' f F L=>by
   have:=y o' f F L;rw[I] at this;omega
  have G:=k {cls:=.type "set",dict:=ξ,data:=.set (b.filterMap (es[·]?)) 0 ⟨TB (n*2) -1,d, #[],t.finger,t.led,m,t.plain⟩} 0 ⟨rfl,rfl,rfl⟩ rfl;refine h _ _ _ _ _ (To s.heap a _) v (k _ _ S.ex rfl) ?_ ?_
  ·have:=G.T.sz;have z:d.size=0:=by simpa [rn] using this
   show d.size+0=0;omega
  ·show n*5<(TB (n*2) -1)*3;omega
 ·rw[if_neg c];dsimp only;exact Sa (h s.heap o es ep t (U5 a s.heap) i S j (by nofun))
theorem yp(s o:Addr)(a:Sem Unit):setMerge s o a=(do
 if s==o then return
 let(eo,epoch,to) <-jax o
 if eo.isEmpty then return
 jcW s eo.size
 let(_,_,ts) <-jax s
 match ts.road to with
 | .slotForSlot=>jcl s eo {to with finger:=ts.finger,led:=ts.led&&to.led,moves:=ts.moves,plain:=ts.plain&&to.plain}
 | .clean=>
   let(es,t) <-(do
    let some (t,order):=(Yy ts.mask ts.finger ts.moves (led:=ts.led&&to.led) (plain:=ts.plain&&to.plain) (eo.map (·.1)))|UL "internal:set-table-without-room"
    let b:=order.filterMap (eo[·]?)
    if b.size !=eo.size then UL "internal:set-table-lost-an-element"
    pure (b,t):Sem (Array (Int×Sb)×TK))
   jcl s es t
 | .oneByOne=>
   for (h,x) in<-YK o [s] (p5 s) do
    let _ <-Wi [x] (W2 s x h)
    a
    if(<-jax o).2.1 !=epoch then UL "set.changed-during-merge"):=rfl
theorem Ff(F:a≠l)(C:s.heap.get? a=p5 o)(S:cp w o es ep t [])(u:t.fill=0)(y:s.heap.get? l=p5 ol)(Sl:cp w ol esl epl tl xs)(L:xs.length<=1000)
 (h: ∀h' o' n m t' i,S8 a s.heap h'->h'.get? a=p5 o'->cp w o' n m t' i->i.Perm xs->Q Unit.unit {s with heap:=h'}):Sy (model prog w) A (setMerge a l each) Q E s:=by
 rw[yp,if_neg (by simpa using F)];have d:=Sl.toSetAt;refine R8 (Ts y Sl.hd d.fits ?_);dsimp only
 by_cases G:esl.isEmpty=ζ
 ·rw[if_pos G];have:xs=[]:=by
   have:=d.size;grind
  subst this;exact Sa (h s.heap o es ep t [] (U5 a s.heap) C S (.refl _))
 ·rw[if_neg G];refine R8 (J2 C S u (by rw[d.size];exact L) λr W U M e p j b P H=>?_);have v:=b.toSetAt;have N:r.get? l=p5 ol:=(p.2 l (S9 F)).trans y;refine R8 (Ts j b.hd v.fits ?_);dsimp only;rw[d.size] at H;have D:(e.led&&tl.led)=tl.led:=by rw[b.led,Sl.led,ZZ]
  have B:(e.plain&&tl.plain)=tl.plain:=by rw[b.pl,Sl.pl,ZZ]
  have z:esl.size<=sizeLine:=by rw[d.size,TY];lia
  unfold SetTable.road;rw[if_neg (by rw[P];decide)]
  by_cases c:(e.mask==tl.mask&&tl.dummies.isEmpty)=ζ
  ·rw[if_pos c];dsimp only;refine Vu j b.hd ?_ z;have k:=Ti (WR esl {tl with finger:=e.finger,led:=e.led&&tl.led,moves:=e.moves,plain:=e.plain&&tl.plain}) j (by rw[VR _ _ b.hd];rfl);rw[VR _ _ b.hd] at k;have T:=Sl.T;exact h _ _ _ _ _ xs (p.trans (To r a _)) k ⟨⟨b.ex,rfl,Sl.he,⟨T.pw,T.sz,T.sp,T.sd,T.lp,T.ld,T.dj,T.fl,T.rc⟩,D.trans Sl.led,B.trans Sl.pl,Sl.nd⟩,Sl.f5⟩ (.refl _)
  ·rw[if_neg c];dsimp only;obtain⟨q,J,x,R⟩:=b.T.pw;obtain⟨f,g,O,I,K,V⟩:=ED d J x R e.finger e.moves H;rw[D,B,O];dsimp only;rw[V,bne_self_eq_false];simp only[SF,if_false];refine R8 (Sa ?_);dsimp only;refine Vu j b.hd ?_ (by nofun)
   have k:=Ti (WR (g.filterMap (esl[·]?)) ⟨e.mask,f, #[],e.finger,tl.led,e.moves,tl.plain⟩) j (by rw[VR _ _ b.hd];rfl);rw[VR _ _ b.hd] at k;exact h _ _ _ _ _ _ (p.trans (To r a _)) k (K _ _ b.ex rfl) (jL I)
end
open PySem PySem.W PyProof.Rows PySem.Builtin
section
variable {A:Tb}{s:Sc}{a:Addr}{o:Obj}{xs:eM}{k:List Int}
theorem fz {h h':Heap}(x:(KI prog w).is h k b)(e: ∀o,h.get? b=p5 o->h'.get? b=p5 o):(KI prog w).is h' k b:=by
 obtain⟨o,items,n,a,r⟩:=x;exact⟨o,items,n,e o a,r⟩
theorem i0 {h:Heap}(x:(KI prog w).is h k b)(g:h.get? a=p5 o)(d:o.cls=.type "set"):b≠a:=λe=>by
 obtain⟨o',items,n,c,f,_⟩:=x;lia
theorem Jv {h h':Heap}(x:mW prog w h xs)(d:h.get? a=p5 o)(c:o.cls=.type "set")(b:S8 a h h'):mW prog w h' xs:=λz hz=>fz (x z hz) λo' e=>(b.2 _ (i0 (x z hz) d c)).trans e
theorem iG(a:s.TypeIs T "set")(h:Q ζ s):Sy (model prog w) A (Frozenset.isAnySet T) Q E s:=by
 unfold Frozenset.isAnySet;refine R8 (Vf a Xb ?_);exact Sa h
theorem Cb {α:Type}{l:List α}(h:l.Nodup){i j:Nat}(b:i<l.length)(a:j<l.length)(e:l[i]=l[j]):i=j:=by
 rcases Vt i j with q|q|q
 ·exact absurd e (T9.mp h i j b a q)
 ·exact q
 ·exact absurd e.symm (T9.mp h j i a b q)
structure Tog(K0 P:List (List Int))(zs:eM):Prop where
 nd:(zs.map (·.1)).Nodup
 mem: ∀k,k∈zs.map (·.1)↔(k∈K0/\k∉P)\/(k∈P/\k∉K0)
theorem Tog.out{zs:eM}(T:Tog K0 P zs){k:List Int}(s:k∉P){c:Addr}(r:zs[i]? =p5 (k,c)):Tog K0 (P++[k]) (zs.eraseIdx i):=by
 have b:k∈zs.map (·.1):=SM.mpr ⟨_,S5 r,rfl⟩;have p:k∈K0:=by
  rcases(T.mem k).mp b with h|h
  ·nofun
  nofun
 have l:(zs.eraseIdx i).map (·.1)=(zs.map (·.1)).eraseIdx i:=(nr _ _ _).symm;have o:(zs.map (·.1))[i]? =p5 k:=by nofun
 have d:i<(zs.map (·.1)).length:=by
  rcases jeS i (zs.map (·.1)).length with h|h
  ·omega
  nofun
 refine⟨by rw[l];exact Vi (Vn _ _) T.nd,λa=>?_⟩;rw[l];have n: ∀a,a∈(zs.map (·.1)).eraseIdx i↔a∈zs.map (·.1)/\a≠k:=λa=>by
  rw[List.mem_eraseIdx_iff_getElem];have q:(zs.map (·.1))[i]=k:=by grind
  constructor
  ·rintro⟨j,g,f,rfl⟩;refine⟨YU _,λe=>f ?_⟩;exact Cb T.nd g d (e.trans q.symm)
  ·rintro⟨m,t⟩;obtain⟨j,g,rfl⟩:=VL m;lia
 rw[n,T.mem,SL,SI]
 by_cases e:a=k
 ·lia
 ·simp[e]
theorem Tog.inn{zs a:eM}(T:Tog K0 P zs){k:List Int}{c:Addr}(f:k∉P)(i:k∉zs.map (·.1))(p:a.Perm (zs++[(k,c)])):Tog K0 (P++[k]) a:=by
 have b:(a.map (·.1)).Perm (zs.map (·.1)++[k]):=by have:=p.map (·.1);nofun
 have g:k∉K0:=λh=>i ((T.mem k).mpr (.inl ⟨h,f⟩))
 refine⟨b.nodup_iff.mpr ?_,λd=>?_⟩
 ·rw[Th]
  exact⟨T.nd,by simp,λx l y j=>by
   grind⟩
 ·rw[b.mem_iff,SL,SI,T.mem,SL,SI]
  by_cases e:d=k
  ·nofun
  ·simp[e]
theorem KP(id:String){ys:eM}(ne:a≠l)(N:s.heap.get? a=p5 o)(S:cp w o es ep t xs)(hE:mW prog w s.heap xs)(H:s.heap.get? l=p5 ol)(Sl:cp w ol esl epl tl ys)(p:mW prog w s.heap ys)
 (hu:A.units<S7) (hn:xs.length+ys.length<=1000)
 (h: ∀h' o' f d t' zs,S8 a s.heap h'->h'.get? a=p5 o'->cp w o' f d t' zs->Tog (xs.map (·.1)) (ys.map (·.1)) zs->(∀z∈zs,z∈xs\/z∈ys)->Q Unit.unit {s with heap:=h'}):Sy (model prog w) A (Frozenset.symmetricDifferenceUpdate id a (.ref l)) Q E s:=by
 have j:=Sl.toSetAt;have M:=SetAt.ty H j;unfold Frozenset.symmetricDifferenceUpdate;rw[if_neg (by simpa using S9 ne)];dsimp only;refine R8 (jau M ?_);rw[if_neg ()];refine R8 (iG M ?_);rw[if_pos rfl];refine R8 (Sa ?_);unfold Frozenset.addrOf;refine R8 (Sa ?_);refine R8 (VA H Sl.hd j.fits ?_);refine Tr ?_
 refine R8 ?_
 unfold YK;refine R8 (Ts H Sl.hd j.fits ?_);dsimp only;refine R8 (cM ?_);rw[if_pos (by rw[Sl.led,Sl.pl];simp[gh])];refine rP H j ?_
 have wp:=jK w l epl esl;rw[Sl.he] at wp;obtain⟨us,pu,eu⟩: ∃us:eM,us.Perm ys/\(g6 w l epl esl).toList=us.map sF:=by
  have key: ∀(m:List (Int×Sb)) (zs:eM),m.Perm (zs.map sF)-> ∃us:eM,us.Perm zs/\m=us.map sF:=λm zs hp=>by
   generalize G:zs.map sF=q at hp
   induction hp generalizing zs with
   |nil=>nofun
   |cons x _ ih=>
    cases zs with
    |nil=>nofun
    |cons z zs=>
     rw[So] at G;obtain⟨h1,b⟩:=VI G;obtain⟨us,Y,u2⟩:=ih zs b;exact⟨z::us,Y.cons z,by nofun⟩
   |swap x y l=>
    cases zs with
    |nil=>nofun
    |cons z zs=>cases zs with
     |nil=>nofun
     |cons z2 zs=>
      rw[So,So] at G;obtain⟨h1,b⟩:=VI G;obtain⟨h3,h4⟩:=VI b;exact⟨z2::z::zs,.swap z z2 zs,by nofun⟩
   |trans _ _ ih1 ST=>
    obtain⟨us,Y,u2⟩:=ST zs G;obtain⟨vs,v1,v2⟩:=ih1 us u2.symm;exact⟨vs,v1.trans Y,v2⟩
  nofun
 have ndu:(us.map (·.1)).Nodup:=(pu.map (·.1)).nodup_iff.mpr Sl.nd;have n:o.cls=.type "set":=S.ex.1;refine R8 (W0 _ (λu _ st=> ∃(P r:eM) (h':Heap) (o':Obj) (f:Array (Int×Sb)) (d:Nat) (t':TK) (zs:eM),u=r.map sF/\us=P++r/\st={s with heap:=h'}/\S8 a s.heap h'/\h'.get? a=p5 o'/\cp w o' f d t' zs/\Tog (xs.map (·.1)) (P.map (·.1)) zs/\(∀z∈zs,z∈xs\/z∈P)/\zs.length<=xs.length+P.length) (λ_ st=>Sy (model prog w) A (pure Unit.unit) Q E st) ?turn ?fin _ _ ⟨[],us,s.heap,o,es,ep,t,xs,eu,rfl,rfl,U5 a s.heap,N,S,⟨S.nd,λk=>by simp⟩,λz hz=>.inl hz,by simp⟩)
 case fin=>
  rintro _ st ⟨P,r,h',o',f,d,t',zs,U,e2,rfl,v,g,O,T,hm,_⟩;have:r=[]:=ZU.mp U.symm;subst this;rw[TZ] at e2;subst e2;refine Sa (h _ _ _ _ _ zs v g O ⟨T.nd,λk=>by rw[T.mem,(pu.map (·.1)).mem_iff]⟩ λz hz=>?_);grind
 case turn=>
  rintro x u _ st ⟨P,r,h',o',f,d,t',zs,U,e2,rfl,v,g,O,T,hm,hlen⟩;cases r with
  |nil=>nofun
  |cons y r=>
   rw[So] at U;obtain⟨hx,hr⟩:=VI U;subst hx;have ylen:us.length=ys.length:=pu.length_eq;have lP:P.length+1<=ys.length:=by
    grind
   have I:y∈ys:=pu.mem_iff.mp (by nofun);have L:y.1∉P.map (·.1):=λG=>by
    grind
   have kk:(KI prog w).is h' y.1 y.2:=fz (p y I) λF e=>(v.2 _ (i0 (p y I) N n)).trans e
   have E2:mW prog w h' zs:=λz hz=>by
    rcases hm z hz with q|q
    ·exact fz (hE z q) λF e=>(v.2 _ (i0 (hE z q) N n)).trans e
    ·have:z∈ys:=pu.mem_iff.mp (by nofun);exact fz (p z this) λF e=>(v.2 _ (i0 (p z this) N n)).trans e
   have hl2:h'.get? l=p5 ol:=(v.2 l (S9 ne)).trans H
   show Sy _ _ (do
    Wi [SQ y.2] (do
     if !(<-YN a (.ref y.2) (th y.1)) then do
      let _ <-W2 a (.ref y.2) (th y.1)
      pure Unit.unit
     else pure Unit.unit)
    Frozenset.unchanged id l epl
    pure (ForInStep.yield PUnit.unit)) _ _ _
   have done: ∀(b:Heap),S8 a h' b-> ∀R:ForInStep PUnit->Sc->Prop,R (.yield PUnit.unit) {s with heap:=b}->Sy (model prog w) A (do
    Frozenset.unchanged id l epl
    pure (ForInStep.yield PUnit.unit)) R E {s with heap:=b}:=λb C R hR=>by
    have X:b.get? l=p5 ol:=(C.2 l (S9 ne)).trans hl2;unfold Frozenset.unchanged;refine R8 ?_
    refine R8 (VA X Sl.hd j.fits ?_);rw[if_neg (by simp)];exact Sa (Sa hR)
   refine R8 (Tr ?_);refine R8 (oF (s:={s with heap:=h'}) g O E2 hu kk ⋯ (λnm=>?_) λJ b F D B Z K C q2 W V=>?_)
   ·rw[if_pos (show(!θ)=ζ from rfl)];refine R8 (pq (s:={s with heap:=h'}) g O E2 hu kk (by grind) (λJ=>absurd J nm) λnm2 b F D B Z K C q2 W V=>?_);refine Sa (done b C _ ⟨P++[y],r,b,F,D,B,Z,K,hr,by nofun,rfl,v.trans C,q2,W,by rw[SZ];exact T.inn L nm V,λz hz=>?_,by rw[V.length_eq,SG,SG,TX];lia⟩);grind
   ·rw[if_neg (show¬(!ζ)=ζ by decide)];obtain⟨i,c,hi,rfl⟩:=V;refine Sa (done b C _ ⟨P++[y],r,b,F,D,B,Z,_,hr,by nofun,rfl,v.trans C,q2,W,by rw[SZ];exact T.out L hi,λz hz=>?_,Tk (YO _ _) (by grind)⟩);grind[YJ]
end
set_option maxHeartbeats 3200000
theorem ma:Slot "set" (dunder Operator.BitXor.info.2) "set.__xor__":=.of (owner:="set") (n:="__xor__") (by rfl) (by rfl) (by rfl) (by rfl) (by first|exact .inl (by rfl)|exact .inr (by decide+kernel)) Xb
theorem rS:jaT table "set.__xor__"=p5 Ux.«frozenset.__xor__»:=Yg (id':="frozenset.__xor__") (by kernel_rfl) rfl (by decide+kernel) (by kernel_rfl)
theorem Dw:jbR.lookup (jdH ['t','e','s'].reverse)=p5 Manifest.sig_set:=by rfl
theorem vk(a b:Sb):jcS "set.__xor__" ⟨[a,b],[]⟩:=by rfl
theorem ve:fillsNumberSlot (.type "set") "xor"=pure true:=by
 rfl
theorem Nx(l r:Sb):Ux.«frozenset.__xor__» ⟨[l,r],[]⟩=(do
 let(self,other) <-Frozenset.slot1 "__xor__" ⟨[l,r],[]⟩
 let(l,r):=if θ then(other,self) else(self,other)
 if !(<-Frozenset.isAnySet l<&&>Frozenset.isAnySet r) then
  rule s!"frozenset.{"__xor__"}.declined"
  return<-ret .notImplemented
 let b <-Frozenset.addrOf l
 let v <-(do
  let a <-Frozenset.newFrom s!"frozenset.{"__xor__"}" (<-Frozenset.baseOf b) r
  let c <-Frozenset.addrOf a
  Wi [a] (Frozenset.symmetricDifferenceUpdate s!"frozenset.{"__xor__"}" c (.ref b))
  return a:Sem Sb)
 ret v):=rfl
section
variable {A:Tb}{xs ys:eM}
theorem Gh{m or:Obj}(x:s.heap.get? l=p5 m)(Sl:cp w m esl epl tl xs)(v:mW prog w s.heap xs)(D:s.heap.get? r=p5 or)(c:cp w or esr epr tr ys)(t:mW prog w s.heap ys)
 (hu:A.units+1<S7) (hn:xs.length+ys.length<=1000)
 (h: ∀h' o' y p t' zs,S8 s.heap.objs.size (s.heap.push (aG w)) h'->h'.get? s.heap.objs.size=p5 o'->cp w o' y p t' zs->Tog (ys.map (·.1)) (xs.map (·.1)) zs->(∀z∈zs,z∈ys\/z∈xs)->Q (.ref s.heap.objs.size) {s with heap:=h'}):
 Sy (model prog w) A (U9 .BitXor (.ref l) (.ref r)) Q E s:=by
 have a:=SetAt.ty x Sl.toSetAt;have d:=SetAt.ty D c.toSetAt;refine ZV a d ve ma ?_
 refine Tx ma a rS ?_ (vk _ _)
 rw[Nx];unfold Frozenset.slot1;have Y:jaU "__xor__" 1 ⟨[SQ l,SQ r],[]⟩=pure (.ref l,[.ref r]):=rfl;rw[Y,pure_bind];dsimp only;rw[pure_bind];dsimp only;rw[if_neg ()];dsimp only;refine R8 ?_
 refine R8 (iG a ?_);refine iG d ?_
 rw[if_neg ()];unfold Frozenset.addrOf;rw[pure_bind];refine R8 ?_
 unfold Frozenset.baseOf;refine R8 ?_
 refine R8 (Vf a Xb ?_);rw[if_pos rfl];refine Sa ?_
 unfold Frozenset.newFrom;refine R8 ?_
 refine R8 (Ce ?_);unfold Frozenset.addrOf;rw[pure_bind];have I:(s.heap.push (aG w)).get? s.heap.objs.size=p5 (aG w):=Sj _ rfl;have b:(s.heap.push (aG w)).get? r=p5 or:=Sd _ D;have H:(s.heap.push (aG w)).get? l=p5 m:=Sd _ x;have B:s.heap.objs.size≠r:=Uc (Sw D);have f:s.heap.objs.size≠l:=Uc (Sw x);have g:YI {s with heap:=s.heap.push (aG w)} (.ref r) "set":=SetAt.ty (s:={s with heap:=s.heap.push (aG w)}) b c.toSetAt;refine R8 (Tr ?_);unfold Frozenset.updateFrom;refine R8 (iG g ?_);rw[if_pos rfl];unfold Frozenset.addrOf Frozenset.merge;rw[pure_bind];refine R8 (VA b c.hd c.toSetAt.fits ?_);refine Ff (s:={s with heap:=s.heap.push (aG w)}) B I (iW w) rfl b c ⋯ λi o1 T X t1 n G U K j=>?_
 refine Sa ?_
 rw[pure_bind];have F:i.get? l=p5 m:=(G.2 l f.symm).trans H;have V:(aG w).cls=.type "set":=rfl;have E0: ∀us:eM,mW prog w s.heap us->mW prog w i us:=λus W=>Jv (λz hz=>fz (W z hz) λo' e=>Sd _ e) I V G
 have O:mW prog w i n:=λz hz=>E0 ys t z (j.mem_iff.mp hz)
 refine R8 (Tr ?_);refine KP (s:={s with heap:=i}) _ f U K O F Sl (E0 xs v) (show A.in1.units<S7 by omega) (by rw[j.length_eq];lia) λN L o C S u R M P J Z=>?_
 refine Sa (Sa ⟨_,rfl,(λe=>by nofun),h N L o C S u (G.trans R) M P ⟨J.nd,λk=>by rw[J.mem,(j.map (·.1)).mem_iff]⟩ λz hz=>?_⟩);rcases Z z hz with q|q
 ·exact .inl (j.mem_iff.mp q)
 ·exact .inr q
end
section
variable {A:Tb}{St:Nat->Sc->Prop}
theorem G3(W:WalksS prog w A.in1 I fp q G n P St)(S:Addr)(r:S∉fp)(ks:List (List Int×Addr))(hk:ks.length=n)(nd:(ks.map (·.1)).Nodup)(hn:n<=1000)(hu:A.in1.units<S7)
 (zN: ∀i v,P i v->v=.ref (ks.getD i ([],0)).2) (hw: ∀z∈ks,z.2∉q):
 ∀(k i:Nat) (s:Sc),n-i=k->i<=n->St i s->
  (∀z∈ks,(KI prog w).is s.heap z.1 z.2)->
  ∀(o:Obj) (es:Array (Int×Sb)) (ep:Nat) (t:TK) (xs:eM),s.heap.get? S=p5 o->cp w o es ep t xs->xs.Perm (ks.take i)->
  (∀s' o' g f t' c,Moved (S::q) G s s'->s'.heap.get? S=p5 o'->cp w o' g f t' c->c.Perm ks->R (.ok (.ret .none)) s')->
  Vo (model prog w) A (.builtin "set.update.loop" ⟨[.ref S,.ref I],[]⟩) R s:=by
 have u:S∉q:=λh=>r (W.sub _ h)
 have d: ∀b∈q,b∈S::q:=λb J=>Sx _ J
 intro k
 induction k with
 |zero=>
  intro i s Tm hi m hE o es ep t xs N F C hR;have ST:i=n:=by grind
  subst ST;refine UM YX ?_
  rw[UE WY _];show Sy _ A.in1 (VX (.ref I)>>=_) _ _ s;refine R8 (W.done s _ _ m λs' p=>?_);show Sy _ A.in1 (ret Te) _ _ s';exact Sa (hR s' o es ep t xs (p.mono d) (p.heap S _ u N) F (by grind))
 |succ k ih=>
  intro i s Tm hi m hE o es ep t xs N F C hR;have B:i<n:=by grind
  refine UM YX ?_
  rw[UE WY _];show Sy _ A.in1 (VX (.ref I)>>=_) _ _ s;refine R8 (W.item i s _ _ B m λv s' hP x p=>?_);have hv:=zN i v hP;subst hv;have hz:ks.getD i ([],0)∈ks:=by
   rw[T7,Su (by nofun)];simp
  have E:ks[i]? =p5 (ks.getD i ([],0)):=by rw[T7,Su (by nofun)];rfl
  generalize hzz:ks.getD i ([],0)=z at hz E;have D:s'.heap.get? S=p5 o:=p.heap S _ u N;have a: ∀z∈ks,(KI prog w).is s'.heap z.1 z.2:=λy l=>fz (hE y l) λH e=>p.heap _ _ (hw y l) e
  have U:mW prog w s'.heap xs:=λy l=>a y (List.mem_of_mem_take (C.mem_iff.mp l))
  have V:z.1∉xs.map (·.1):=λY=>by
   have:=(C.map (·.1)).mem_iff.mp Y;rw[jdp] at this;obtain⟨j,hj,e⟩:=VL this;rw[jaX] at e;have hj2:j<i:=by simp at hj;nofun
   have M:i<(ks.map (·.1)).length:=by nofun
   have e2:(ks.map (·.1))[i]=z.1:=by
    nofun
   exact absurd (Cb nd (by grind) M (e.trans e2.symm)) ⋯
  have Z:o.cls=.type "set":=F.ex.1;show Sy _ A.in1 (Wi [SQ z.2] (setAdd S (.ref z.2))>>=_) _ _ s';refine R8 (Tr ?_);unfold setAdd;refine Tr ?_
  refine R8 ((KI prog w).pyHash (show(KI prog w).room A.in1 from hu) (a z hz) ?_);rw[A3];refine pq (s:={s' with toks:=s'.toks+(KI prog w).draws z.1}) D F U hu (a z hz) (by rw[C.length_eq,YQ];lia) (λY=>absurd Y V) λ_ h' o' g f t' c X g2 g3 g4=>?_
  refine Sa ⟨YG WY _,ih (i+1) _ (by grind) B (W.frame _ s' _ _ x (VO _ _) λb J H e=>?_) (λy l=>?_) o' g f t' c g2 g3 ?_ λL H O K t2 T Q q1 q2 q3=>?_⟩
  ·rw[X.2 b (λh:b=S=>r (by nofun))];exact e
  ·exact fz (a y l) λH e=>(X.2 _ (i0 (a y l) D Z)).trans e
  ·refine g4.trans ?_
   rw[jcX,E];exact List.Perm.append_right _ C
  ·refine hR L H O K t2 T (Moved.trans W.gtrans ((p.mono d).then_heap (VO _ _) λb o3 J e=>?_) Q) q1 q2 q3;rw[X.2 b (λh:b=S=>J (by rw[h];exact SB))];exact e
end
section
variable {A:Tb}
theorem Du{items:Array Sb}{ks:List (List Int×Addr)}(hh:A.handled=ξ)(hl:s.heap.IsList l items)(hi:items.toList=ks.map λz=>SQ z.2)(nd:(ks.map (·.1)).Nodup)(hn:ks.length<=1000)(hu:A.units+10<S7)(hE: ∀z∈ks,(KI prog w).is s.heap z.1 z.2)
 (h: ∀(h':Heap) (tk:Nat) (o':Obj) (d:Array (Int×Sb)) (a:Nat) (t':TK) (xs:eM),h'.get? s.heap.objs.size=p5 o'->cp w o' d a t' xs->xs.Perm ks->(∀b o,b<s.heap.objs.size->s.heap.get? b=p5 o->h'.get? b=p5 o)->Q (.ref s.heap.objs.size) {s with heap:=h',toks:=tk}):
 Sy (model prog w) A (call (.type "set") [.ref l]) Q E s:=by
 obtain⟨c,tl,W⟩:=Ud.mro;have T:=Ud.made;have Z:=Ud.sub;refine jcw (XJ ?_);show Sy _ _ (callAny (.type "set") _) _ _ _;refine Sa ⟨jaf _ (by decide+kernel),UM jaV ?_⟩;rw[jag (ZA "set" [.ref l] []) rfl];have h1:=Ud.notType;have h2:=Ud.canCreate;have hct:=F.typeCall_set_1 (.ref l)
 repeat (any_goals (first|assumption|wp_step))
 refine Vc (yL (as:=[.ref l]) (E:=E) (F.newCall_set_1 (.ref l)) (Q₁:=λobj g=>obj=.ref s.heap.objs.size/\g={s with heap:=s.heap.push (aG w)}) ⟨rfl,rfl⟩) λr g hr=>?_
 cases r with
 |error e=>exact hr
 |ok fl=>
  cases fl with
  |ret obj=>
   obtain⟨rfl,rfl⟩:=hr;have y:(s.heap.push (aG w)).get? s.heap.objs.size=p5 (aG w):=Sj _ rfl;have hS:(s.heap.push (aG w)).get? s.heap.objs.size=p5 {cls:=.type "set",dict:=ξ,data:=.set #[] 0 (.fresh 0 0 (!gh w))}:=y;have hT:YI {s with heap:=s.heap.push (aG w)} (.ref s.heap.objs.size) "set":=⟨_,hS,rfl⟩
   have hli:=Ud.init.lookup;have hbi:=Ud.init.bind (.ref s.heap.objs.size)
   repeat (any_goals (first|assumption|wp_step))
   refine Vc (ZN (R:=wants (λr j=>r=.none/\ ∃h' tk o' d a t' xs,j={s with heap:=h',toks:=tk}/\h'.get? s.heap.objs.size=p5 o'/\cp w o' d a t' xs/\xs.Perm ks/\
    (∀b o,b<s.heap.objs.size->s.heap.get? b=p5 o->h'.get? b=p5 o)) E) Ud.init.plain jbr (check_set_init_1 hT ?_)) λx j k=>?_
   ·obtain⟨ol,t,C,nl,u⟩:=hl;obtain⟨ocls,m,J,f⟩:=ol;simp only at C u;subst C;subst u;have p:(s.heap.push (aG w)).get? l=p5 {cls:=.type "list",dict:=m,data:=.seq items nl,slots:=f}:=Sd _ t;have hsls:=F.sub_list_set;have X:=F.sub_list_frozenset;have hne:(jaa "list"==jaa "dict")=false:=by rfl
    have q:(s.heap.push (aG w)).IsList l items:=⟨_,p,rfl,nl,rfl⟩
    unfold Ux.«set.__init__» noKeywords jbV;generalize U:YA=PI
    wp_walk
    subst U;refine Yo q ?_
    refine R8 (ZH ?_);have P:l<s.heap.objs.size:=Sw t;have O:A.in1.in1.in1.handled=none:=by omega
    have B:l≠(s.heap.push (aG w)).objs.size:=by
     rw[UJ];exact SW (Yv P)
    have L:s.heap.objs.size∉ [(s.heap.push (aG w)).objs.size,l]:=by
     rw[UJ];grind
    have zi:ks.length=items.size:=by
     have:=congrArg Uk hi;grind
    have S: ∀z∈ks,z.2<s.heap.objs.size:=λz hz=>by
     obtain⟨o,_,_,e,_⟩:=hE z hz;exact Sw e
    refine G3 ((jhc O _ l B items).toS) s.heap.objs.size L ks zi nd (by nofun) (show A.in1.in1.in1.units<S7 by
     have a1:A.in1.in1.in1.units<=A.units+3:=Sn _
     lia) (λi v hv=>?_) (λz hz=>?_) (items.size-0) 0 _ (by simp) (Uv _)
     ⟨⟨_,Sj _ rfl,rfl,rfl⟩,(q.push _)⟩ (λz hz=>fz (hE z hz) λo e=>Sd _ (Sd _ e)) _ _ _ _ [] (Sd _ y) (iW w) (.refl _) ?hR
    ·have:items.toList[i]? =p5 v:=by rw[Tc];exact hv
     grind
    ·have:=S z hz;simp only[SU,SI,Wz,or_false];rw[UJ];exact SW (Yv this)
    case hR=>
     intro s' o' d a t' I D M G H;obtain⟨h',g',d',K,V⟩:=s';have eg:g'=s.gens:=D.gens;have ed:d'=s.drawn:=D.drawn;have eo:V=s.os:=D.os;subst eg;subst ed;subst eo;show Sy _ _ _ _ _ _;refine Sa ?_
     show Sy _ _ (ret Te) _ _ _;refine Sa ⟨rfl,h',K,o',d,a,t',I,rfl,M,G,H,λb o Y e=>?_⟩;have hb1:b≠s.heap.objs.size:=SW Y;have hb2:b≠(s.heap.push (aG w)).objs.size:=by
      rw[UJ];exact SW (Yv Y)
     exact D.heap b o (by nofun) (Sd _ (Sd _ e))
   ·cases x with
    |error e=>omega
    |ok n=>
     cases n with
     |ret r=>
      obtain⟨rfl,h',tk,o',d,a,t',xs,rfl,M,G,H,N⟩:=k
      repeat (any_goals (first|assumption|wp_step))
      exact h _ _ _ _ _ _ _ M G H N
     |_=>omega
  |_=>omega
end
set_option maxHeartbeats 1000000
section
variable {X:Cx}
def ND(K:Sf):List V->Hp->VK->Prop:=λxs H Q=> ∃l ks,xs=[.ref l]/\SqL K H l (mz ks)/\(∀z∈ks,SqT K H z.2 (z.1.map V.int))/\(ks.map (·.1)).Nodup/\ks.length<=1000/\ ∀a zs,H a=ξ->zs.Perm ks->Q (.ref a) (aV H a (.tst zs))
theorem iL(E:X.calm=ζ)(x:X.A.units+10<S7):dq X (.type "set") (ND X.K):=by
 intro T s σ H xs us Q I r h;obtain⟨l,ks,rfl,m,i,N,O,q⟩:=h;obtain⟨u,rfl,P⟩:=fE r;cases P;obtain⟨c,r,D,W⟩:=I.list m;have S:c=ks.map λz=>SQ z.2:=by
  have B:=rj ks;have: ∀(vs:List V) (a b:List Sb),(∀v∈vs,∃p,v=V.ref p)->cb vs a->cb vs b->a=b:=λvs=>by
   induction vs with
   |nil=>intro a b _ d f;cases d;cases f;rfl
   |cons v vs G=>
    intro a b hv d f;cases d with
    |cons R g=>cases f with
     |cons C J=>
      obtain⟨p,rfl⟩:=hv v SB;cases R;cases C;rw[G _ _ (λw hw=>hv w (Sx _ hw)) g J]
  exact this _ _ _ (λv hv=>by grind) r B
 refine Du (ks:=ks) (items:=c.toArray) (I.ok.hd E) ?_ (by omega) N O x (λz hz=>lV I (i z hz)) λh' tk o' F y t' zs M j k t=>?_
 ·obtain⟨o,n,e,L,U,g⟩:=D;exact⟨o,e,L,n,by first|omega|exact g⟩
 ·exact⟨.ref s.heap.objs.size,_,I.laid (t':=tk) (λb o e=>t b o (Sw e) e) (Sn _) (show b6 X.prog X.w _ _ _ (.tst zs) from⟨_,_,_,_,M,j⟩),rfl,q _ _ (I.hok.fresh (Sn _)) k⟩
def PQ(K:Sf):R2:=λx y H Q=> ∃l r xs ys,x=.ref l/\y=.ref r/\H l=p5 (.tst xs)/\H r=p5 (.tst ys)/\(∀z∈xs,SqT K H z.2 (z.1.map V.int))/\(∀z∈ys,SqT K H z.2 (z.1.map V.int))/\xs.length+ys.length<=1000/\
 ∀a zs,H a=ξ->Tog (ys.map (·.1)) (xs.map (·.1)) zs->(∀z∈zs,z∈ys\/z∈xs)->Q (.ref a) (aV H a (.tst zs))
theorem Jm(j:X.A.units+1<S7):kK X (U9 .BitXor) (PQ X.K):=by
 intro O s σ H x y v u Q I E J h;obtain⟨l,r,xs,ys,rfl,rfl,p,D,G,f,F,q⟩:=h;cases E;cases J;obtain⟨N,z,C,L,d,Sl⟩:=(show b6 X.prog X.w H s.heap l (.tst xs) from I.hok l _ p)
 obtain⟨or,B,i,M,a,n⟩:=(show b6 X.prog X.w H s.heap r (.tst ys) from I.hok r _ D)
 refine Gh d Sl (kx I G) a n (kx I f) j F λh' o' t k t' zs b g S T m=>?_
 refine⟨.ref s.heap.objs.size,_,I.laid (t':=s.toks) (λc o e=>?_) (Sn _) (show b6 X.prog X.w _ _ _ (.tst zs) from⟨_,_,_,_,g,S⟩),rfl,q _ _ (I.hok.fresh (Sn _)) T m⟩;exact(b.2 c (SW (Sw e))).trans (Sd _ e)
end
theorem i7 {K:Sf}: ∀ {vs:List V} {ks:List (List Int)},Reps K (vw H hid) vs (ks.map aQ)-> ∃xs:eM,vs=mz xs/\xs.map (·.1)=ks/\Reps K (vw H hid) (mz xs) (zu xs)
 |vs,[],r=>by cases r;exact⟨[],rfl,rfl,.nil⟩
 |vs,k::ks,r=>by
  rw[So] at r;cases r with
  |cons r a=>
   obtain⟨xs,rfl,rfl,c⟩:=i7 a;obtain⟨b,z,rfl,_⟩:=(show dr K H (vw H hid) _ (.tup (k.map D.int)) from .inl r).tup;exact⟨(k,b)::xs,rfl,rfl,.cons r c⟩
def jo:List D->Option (List (List Int))
 | []=>p5 []
 | .tup ds::r=>(b9 ds).bind λk=>(jo r).map (k:: ·)
 |_=>ξ
theorem jp: ∀ {ds:List D} {ks:List (List Int)},jo ds=p5 ks->ds=ks.map aQ
 | [],ks,h=>by cases h;rfl
 | .tup es::r,ks,h=>by
   obtain⟨k,a,h⟩:=Si.mp (show(b9 es).bind _=_ from h);obtain⟨t,b,rfl⟩:=SO.mp h;rw[So,<-jp b,cJ a];rfl
 | .non::_,_,h| .bl _::_,_,h| .int _::_,_,h| .str _::_,_,h| .lst _::_,_,h| .scr _::_,_,h| .dct _ _::_,_,h=>by cases h
theorem Bh {A:Tb}(a:er k A):A.units+10<cLine:=SK (Vb (by simp:10<=64) _) a.units
def h8(a b:List (List Int)):List (List Int):=a.filter (λk=>decide (k∉b))++b.filter (λk=>decide (k∉a))
theorem pH {a b:List (List Int)}(d:a.Nodup)(c:b.Nodup):(h8 a b).Nodup:=by
 unfold h8;rw[Th];refine⟨d.filter _,c.filter _,λx g y f e=>?_⟩;nofun
theorem lr{k:List Int}:k∈h8 a b↔(k∈a/\k∉b)\/(k∈b/\k∉a):=by
 simp[h8]
theorem FJ {a b:List (List Int)}{zs:eM}(T:Tog b a zs)(d:a.Nodup)(c:b.Nodup):(zs.map (·.1)).Perm (h8 a b):=
 (Tg T.nd (pH d c)).mpr λk=>by rw[T.mem,lr];grind
def Of(i j:Nat):FE:=λρ=>match ρ[i]?,ρ[j]? with
 |some (.v (.lst c)),some (.v (.lst d))=>(jo c).bind λa=>(jo d).bind λb=>if(a.Nodup/\b.Nodup)/\a.length+b.length<=1000/\(h8 a b).length<64/\(∀k∈a,k≠[])/\(∀k∈b,k≠[]) then p5 (.lst ((bz aT (h8 a b)).map aQ)) else ξ
 |_,_=>ξ
theorem vp {K:Sf}(h:Rep K (vw H hid) v (.lst ds)): ∃l xs,v=.ref l/\SqL K H l xs/\Reps K (vw H hid) xs ds:=by
 obtain⟨a,xs,rfl,b,c⟩:=(show dr K H (vw H hid) v (.lst ds) from .inl h).lst;exact⟨a,xs,rfl,b,c⟩
section
variable {X:Cx}{p p1 p3:Pos}
theorem Fg(i j:Nat)(o:X.calm=ζ)(hu:X.A.units+10<S7)(Z:X.mg "sorted"=ξ)(s:X.mg "set"=ξ)(hN:X.N[i]? =p5 x:=by rfl)(ST:X.N[j]? =p5 y:=by rfl)(Tm:oe X.env.scope x:=by first|exact TJ rfl|exact Ta (TJ rfl)|exact Ta (Ta rfl))(Y:oe X.env.scope y:=by first|exact TJ rfl|exact Ta (TJ rfl)|exact Ta (Ta rfl))(a:(x==("__debug__":Str))=false:=by decide)(S:(y==("__debug__":Str))=false:=by decide)
 (U:(x==("__classdict__":Str))=false:=by decide) (C:(y==("__classdict__":Str))=false:=by decide) (hg:Gl X "sorted":=by rfl) (v:Gl X "set":=by rfl) (hv:TN "sorted"=p5 (.builtin "sorted"):=by kernel_rfl) (J:TN "set"=p5 (.type "set"):=by kernel_rfl)
 (F:Sv [.Name x p2] X.env=(θ,eval (.Name x p2) X.env)::Sv [] X.env:=by rfl) (E:Sv [.Name y p4] X.env=(θ,eval (.Name y p4) X.env)::Sv [] X.env:=by rfl) (L:Sv [.BinOp (.Call (.Name "set" p1) [.Name x p2] [] q1) .BitXor (.Call (.Name "set" p3) [.Name y p4] [] q2) q3] X.env=(θ,eval (.BinOp (.Call (.Name "set" p1) [.Name x p2] [] q1) .BitXor (.Call (.Name "set" p3) [.Name y p4] [] q2) q3) X.env)::Sv [] X.env:=by rfl) (m: ∀u,(Ue u (Sv [] X.env)).any (·.1)=false:=by intro _;rfl):
 DP X c .n (.Call (.Name "sorted" p) [.BinOp (.Call (.Name "set" p1) [.Name x p2] [] q1) .BitXor (.Call (.Name "set" p3) [.Name y p4] [] q2) q3] [] u) (Of i j):=λhid ρ=>
 PE.imp (jB (mP o) hg Z hv (bn (AE (Jm ⋯) (dY (iL o hu) v s J (bn (pv i hN Tm a U) bX F) () (by rfl) F (m _)) (dY (iL o hu) v s J (bn (pv j ST Y S C) bX E) () (by rfl) E (m _))) bX L) () (by rfl) L (m _)) λσ H Q W=>by
  obtain⟨sr,d,a,q⟩:=W;unfold Of at a;split at a
  ·rename_i d1 d2 e1 e2
   obtain⟨k1,f1,a⟩:=Si.mp a;obtain⟨k2,f2,a⟩:=Si.mp a;split at a
   ·rename_i hc
    cases a;obtain⟨⟨t,B⟩,M,h64,XL,Ty⟩:=hc;have:=jp f1;subst this;have:=jp f2;subst this;obtain⟨v1,s1,r1⟩:=sr.sl i _ e1;obtain⟨v2,s2,r2⟩:=sr.sl j _ e2;obtain⟨l1,u1,rfl,g1,w1⟩:=vp r1;obtain⟨l2,u2,rfl,g2,w2⟩:=vp r2;obtain⟨w,rfl,rfl,y1⟩:=i7 w1;obtain⟨G,rfl,rfl,y2⟩:=i7 w2;rw[Sm,Sm] at M;have t1: ∀z∈w,SqT X.K H z.2 (z.1.map V.int):=λz hz=>jc (b7 y1 z hz)
    have t2: ∀z∈G,SqT X.K H z.2 (z.1.map V.int):=λz hz=>jc (b7 y2 z hz)
    refine⟨.ref l1,s1,l1,w,rfl,g1,t1,t,⋯,λO P n1 e=>?_⟩;have R:ab H (aV H O (.tst P)):=aM n1 _;refine⟨.ref l2,s2,l2,G,rfl,ab.seq R g2,λz hz=>ab.seqT R (t2 z hz),B,⋯,λa2 z2 n2 b=>?_⟩;have S2:ab (aV H O (.tst P)) (aV (aV H O (.tst P)) a2 (.tst z2)):=aM n2 _;have g:=R.trans S2;refine⟨O,a2,P,z2,rfl,rfl,S2 _ _ aA,aA,λz hz=>ab.seqT g (t1 z (e.mem_iff.mp hz)),λz hz=>ab.seqT g (t2 z (b.mem_iff.mp hz)),by rw[e.length_eq,b.length_eq];omega,λa3 r n3 T m3=>?_⟩;have S3:=aM n3 (.tst r);have f:=g.trans S3;have I: ∀z∈r,z∈w\/z∈G:=λz hz=>(m3 z hz).elim (λh=>.inr (b.mem_iff.mp h)) λh=>.inl (e.mem_iff.mp h)
    have T':Tog (G.map (·.1)) (w.map (·.1)) r:=⟨T.nd,λk=>by rw[T.mem,(e.map (·.1)).mem_iff,(b.map (·.1)).mem_iff]⟩
    have P3:=FJ T' t B;have l3:r.length<64:=by
     have:=P3.length_eq;nofun
    have rp: ∀z∈r,Rep X.K (vw H hid) (.ref z.2) (.tup (z.1.map D.int)):=λz hz=>(I z hz).elim (b7 y1 z) (b7 y2 z)
    refine⟨a3,r,rfl,aA,λz hz=>ab.seqT f (jc (rp z hz)),by omega,λz hz=>(I z hz).elim (λh=>XL _ (S6 h)) λh=>Ty _ (S6 h),λl XV M Z hk=>q _ _ (f.trans (aM M _)) (gL M f ?_)⟩;have:(bz aT (h8 (w.map (·.1)) (G.map (·.1)))).map aQ=zu XV:=by
     rw[<-jU P3,<-hk,SJ];rfl
    rw[this];exact jh λz hz=>(rp z (Z z hz)).mono (aH f)
   nofun
  nofun
end
open PySem PySem.W PySem.Spec PyProof.Rows
def Po:V->List V->Hp->VK->Prop:=λx vs H Q=> ∃l p xs y,x=.ref l/\vs=[y]/\H l=p5 (.nst p (.lst xs))/\xs.length<SC/\Q .non (aV H l (.nst p (.lst (xs++[y]))))
section
variable {X:Cx}
theorem IX:NR X "list.append" Po:=by
 intro j s σ H x vs v us Q I m e h;obtain⟨l,p,xs,y,rfl,rfl,i,hz,q⟩:=h;refine bC (eV j s σ (aV H l (.lst xs)) (.ref l) [y] v us (λz b=>z=.non/\b=aV H l (.lst (xs++[y]))) (I.unnest i) m e ⟨l,xs,y,rfl,rfl,aA,hz,rfl,A8⟩) λw n a=>?_
 obtain⟨z,o,c,g,f,k⟩:=a;subst f k;refine⟨.non,aV H l (.nst p (.lst (xs++[y]))),?_,g,q⟩;have:=c.nest (d:=l) (p:=p) (u:=.lst (xs++[y])) aA trivial;rwa [A8] at this
def RM(x:V)(H:Hp):Prop:= ∃d p xs,x=.ref d/\H d=p5 (.nst p (.lst xs))
variable {to:TE}{t:TA}{apos cpos:Pos}{id:String}{r:V->List V->Hp->VK->Prop}
def Rc(r:V->List V->Hp->VK->Prop)(to:TE)(t:TA):TE:=λσ H Q=>to σ H λx a=>RM x a/\t σ a λxs b=>r x xs b Q
theorem Mi(g:Slot "list" name id)(i:typeOf (.builtin id)=pure (.type "method_descriptor"))(C:NR X id r)(M:PE X o to)(A:PA X (e::es) t)
 (b:Ve o name X.env (eval o X.env)=eval o X.env:=by rfl)
 (f:((Ue cpos (Sv (e::es) X.env)).all (λx=> !x.1)&&(XA cpos (VW [] X.env)).all (λx=>x.1.isSome)
   &&χ ((e::es).length+([]:List Vv).length+(if([]:List Vv).isEmpty then 0 else 1)<30))=true:=by rfl)
 (c:(apos.endLine==cpos.line)=true:=by rfl) (z:Sv (e::es) X.env=(θ,eval e X.env)::Sv es X.env:=by rfl) (a:(Ue cpos (Sv es X.env)).any (·.1)=false:=by rfl):
 PE X (.Call (.Attribute o name apos) (e::es) [] cpos) (Rc r to t):=by
 intro j s σ H Q I h;refine Y9 b f c rfl (bC (M j s σ H _ I h) λv y k=>?_);obtain⟨x,q,m,n,ty,G⟩:=k;obtain⟨d,p,xs,rfl,F⟩:=ty;obtain⟨w,D⟩:=FH (m.unnest F) n (show Ri X.K "list" (.ref d) (aV q d (.lst xs)) from .inl ⟨rfl,xs,SqL.of aA⟩);refine⟨"list",id,WW,g,i,w,D,?_⟩;have l:=A cpos j y σ q _ m G;rw[z] at l⊢;refine V0 (by show(θ||(Ue cpos (Sv es X.env)).any (·.1))=θ;rw[a]<;>rfl) (Wo ?_);exact bC l λus L ⟨vs,J,B,E,u⟩=>C j L σ J (.ref d) vs v us Q B n E u
end
open PySem PySem.Spec PyProof.Rows HT
theorem yU {α β:Type}: ∀l:List (α×β),(l.map (·.1)).zip (l.map (·.2))=l
 | []=>rfl
 |(a,b)::l=>by simp[yU]
theorem xp {α β:Type}: ∀ {k:List α} {x:List β},k.length=x.length->(k.zip x).map (·.1)=k/\(k.zip x).map (·.2)=x
 | [],[],_=>⟨rfl,rfl⟩
 |a::k,b::x,h=>by
  obtain⟨c,d⟩:=xp (k:=k) (x:=x) (W8 h);nofun
def vX:D->Option j9
 | .dct ks ds=>p5 (ks.zip ds)
 |_=>ξ
def cW(kvs:j9):D:=.dct (kvs.map (·.1)) (kvs.map (·.2))
theorem pD {K:Sf}(h:dr K H (vw H hid) v d)(e:vX d=p5 kvs): ∃a o us,v=.ref a/\vw H hid a=p5 (.frz o (.dT us))/\KRt K (vw H hid) us kvs:=by
 cases d with
 |dct ks ds=>
  cases e;rcases h with h|⟨_,_,_,_,b,_⟩
  ·cases h with
   |dct q l r=>
    refine⟨_,_,_,rfl,q,?_,?_⟩
    ·rw[(xp l).1,(xp (l.trans r.length)).1]
    ·rw[(xp l).2,(xp (l.trans r.length)).2];exact r
  nofun
 |_=>cases e
theorem Bj {K:Sf}(h:F a=p5 (.frz o (.dT us)))(r:KRt K F us kvs):Rep K F (.ref a) (cW kvs):=by
 refine .dct (o:=o) (xs:=us.map (·.2)) ?_ ?_ r.2
 ·rw[<-r.1,yU];exact h
 ·rw[<-r.1,Sm,Sm]
def QK(i:Nat)(ρ:aC):Option aC:=(nH i ρ).map λkvs=>ρ.set i (.v (cW kvs))
def IU(i:Nat)(t:FS):FS:=λρ=>match QK i ρ with
 |some ρ'=>t ρ'
 |none=>.no
section
variable {st:Stmt}
theorem Ez(i:Nat)(h:DS X c k st t):DS X c k st (IU i t):=λρ O s σ H D I E=>by
 obtain⟨hid,g,q⟩:=E;unfold IU at q;split at q
 ·rename_i ρ' e
  obtain⟨kvs,C,rfl⟩:=SO.mp e;obtain⟨a,us,M,J,T,L,P⟩:=g.dictT C;obtain⟨z,y,xs,r,o,es,ep,F,Q⟩:=(show b6 X.prog X.w H s.heap a (.dT us) from I.hok a _ L)
  have V: ∀b xs,H b=p5 (.tup xs)->b≠a:=λb xs w e=>by nofun
  have B:b6 X.prog X.w (aV H a (.frz o (.dT us))) s.heap a (.frz o (.dT us)):=⟨F,z,y,xs,Paired.mapP r λp q z=>⟨z.1,by rw[az (V _ _ z.2.1)];exact z.2.1,z.2.2⟩,o,es,ep,F,Q⟩
  have U:Inv X O σ (aV H a (.frz o (.dT us))) {s with heap:=s.heap,toks:=s.toks}:=I.write (x:=a) (e:=a) (by rw[L];trivial) (.inl rfl) (λb u _ S=>S) ⟨o,F⟩ B;have lt:=(Sz.mp (fQ C)).1;have n:SR X.K c hid (ρ.set i .no) σ H:=g.forget (by simp) λj s' q=>by
   by_cases A:j=i
   ·nofun
   grind
  have m:=n.reveal (u':=.frz o (.dT us)) J T λj Y f q l=>by
   have A:j≠i:=λz=>by
    subst z;rw[SX lt] at f;exact f
   rw[SD (S9 A)] at f;rcases l with z|⟨W,R⟩
   ·subst z;exact g.ap j i a A f (by rw[fQ C];trivial) q M
   nofun
  have N:ab (vw H hid) (vw (aV H a (.frz o (.dT us))) (eQ hid a)):=jN J;have G:vw (aV H a (.frz o (.dT us))) (eQ hid a) a=p5 (.frz o (.dT us)):=Hh;have d:=m.mark (i:=i) (s:=.v (cW kvs)) ⟨_,M,Bj G ⟨P.1,P.2.mono N⟩⟩ id;rw[vL] at d;exact h _ O s σ _ D U ⟨eQ hid a,d,q.mono N⟩
 ·exact q.elim
end
theorem MB {K:Sf}{ns:List Int}(h:dr K H' (vw H' hid) z (.tup (ns.map D.int))): ∃b,z=.ref b/\H' b=p5 (.tup (ns.map V.int)):=by
 obtain⟨b,xs,rfl,a,_,c⟩:=h.tup;rw[wx c] at a;exact⟨b,rfl,cu _ _ _ _ a⟩
theorem Ba(ns:List Int):(iK ns).map kV=ns.map V.int:=by unfold iK;rw[SJ];rfl
section
variable {X:Cx}{k:Kd}{f:Expr}
def dG(f:FE):aC->Option (List Int):=λρ=>(f ρ).bind mi
theorem fW(j:DP X c k1 e fe):DK X c e (dG fe):=λhid ρ=>PE.imp (j hid ρ) λσ H Q f=>by
 obtain⟨g,ns,e,q⟩:=f;obtain⟨d,i,m⟩:=Si.mp e;have k:=eO m;subst k;refine⟨g,_,i,λv h s r=>?_⟩;obtain⟨b,rfl,l⟩:=MB (RK.b k1 r λa n=>g.fresh n);exact q b h s l
def jX(a:FE)(fk:aC->Option (List Int)):FE:=λρ=>((a ρ).bind vX).bind λkvs=>(fk ρ).bind λk=>cv kvs (iK k)
theorem lX(u:X.A.units+1<S7)(G:DP X c k2 o fo)(C:DK X c e fk)(t:zM e):DP X c .s (.Subscript o e pos) (jX fo fk):=λhid ρ=>
 PE.imp (Id u (G hid ρ) (C hid ρ) t) λσ H Q i=>by
  obtain⟨g,d,f,q⟩:=i;obtain⟨kvs,h,f⟩:=Si.mp f;obtain⟨J,z,h⟩:=Si.mp h;obtain⟨k,E,f⟩:=Si.mp f;refine⟨g,_,z,λx I j B=>⟨g.ext j,_,E,λb F p D=>?_⟩⟩;obtain⟨a,o',us,rfl,r,y⟩:=pD (dr.ext (RK.b k2 B λa n=>g.fresh n) p) h;rcases y.val (iK k) with⟨m,l⟩|⟨v,d',m,l,w⟩
  ·nofun
  ·rw[l] at f;cases f;exact⟨a,v,rfl,.inr ⟨us,iK k,b,.inr ⟨o',cu _ _ _ _ r⟩,rfl,by rw[Ba];exact D,m.symm⟩,q _ F (j.trans p) w⟩
def oU(a:Bool)(fk:aC->Option (List Int))(b:FE):FT:=λρ=>(fk ρ).bind λk=>((b ρ).bind vX).map λkvs=>if a then !(cv kvs (iK k)).isSome else(cv kvs (iK k)).isSome
theorem KRt.is {K:Sf}(h:KRt K F us kvs)(k:List bj):(dh us k).isSome=(cv kvs k).isSome:=by
 rcases h.val k with⟨a,b⟩|⟨v,d',a,b,c⟩<;>rw[a,b]<;>rfl
theorem AG(m:X.A.units+1<S7)(u:DK X c e fk)(B:DP X c k2 o fo)(p:UG .In o=false:=by rfl):DT X c (.Compare e [.In] [o] pos) (oU θ fk fo):=λhid ρ=>
 PT.imp (wB (MS m (u hid ρ) (B hid ρ)) p) λσ H Q j=>by
  obtain⟨f,d,h,q⟩:=j;obtain⟨v,y,h⟩:=Si.mp h;obtain⟨kvs,i,rfl⟩:=SO.mp h;obtain⟨D,t,i⟩:=Si.mp i;refine⟨f,_,y,λb C g w=>⟨f.ext g,_,t,λx z k s=>?_⟩⟩;obtain⟨a,o',us,rfl,l,r⟩:=pD (RK.b k2 s λa n=>(f.ext g).fresh n) i;refine⟨a,_,rfl,.inr ⟨us,iK v,b,.inr ⟨o',cu _ _ _ _ l⟩,rfl,by rw[Ba];exact k _ _ w,rfl⟩,_,rfl,?_⟩;rw[r.is];exact q z (g.trans k)
theorem zR(m:X.A.units+1<S7)(u:DK X c e fk)(B:DP X c k2 o fo)(p:UG .NotIn o=false:=by rfl):DT X c (.Compare e [.NotIn] [o] pos) (oU ζ fk fo):=λhid ρ=>
 PT.imp (wB (DM m (u hid ρ) (B hid ρ)) p) λσ H Q j=>by
  obtain⟨f,d,h,q⟩:=j;obtain⟨v,y,h⟩:=Si.mp h;obtain⟨kvs,i,rfl⟩:=SO.mp h;obtain⟨D,t,i⟩:=Si.mp i;refine⟨f,_,y,λb C g w=>⟨f.ext g,_,t,λx z k s=>?_⟩⟩;obtain⟨a,o',us,rfl,l,r⟩:=pD (RK.b k2 s λa n=>(f.ext g).fresh n) i;refine⟨a,_,rfl,.inr ⟨us,iK v,b,.inr ⟨o',cu _ _ _ _ l⟩,rfl,by rw[Ba];exact k _ _ w,rfl⟩,_,rfl,?_⟩;rw[r.is];exact q z (g.trans k)
def Kp(f:FE):FA:=λρ=>((f ρ).bind vX).bind λkvs=>(ey kvs).map λa=>a.map aQ
theorem yi(G:DP X c .s e fe):DIp X c tg e (Kp fe):=λhid ρ=>PI.imp (GK (G hid ρ)) λσ H R l=>by
 obtain⟨f,ds,e,q⟩:=l;obtain⟨kvs,k,e⟩:=Si.mp e;obtain⟨P,D,k⟩:=Si.mp k;obtain⟨J,M,rfl⟩:=SO.mp e;refine⟨f,_,D,λv I m F=>?_⟩;have h:=f.ext m;obtain⟨a,o',us,rfl,g,C⟩:=pD (RK.b .s F λa n=>f.fresh n) k;refine⟨a,o',us,rfl,cu _ _ _ _ g,λxs L=>?_⟩;have z:=Ae L (by rw[C.1];exact rL M);have r:=qk (K:=X.K) h.ht z;have E:=r.length;refine q _ I m ⟨λj d N A w=>?_,λN w=>⟨w _ _ g,E.symm⟩⟩;obtain⟨v,p,u⟩:=r.get A;have i:j<(xs.map λx=>V.ref x.2.1).length:=(Sz.mp p).1;refine⟨⟨w _ _ g,i⟩,λx O ⟨B,o⟩=>?_⟩;subst B;rw[p] at o;cases o;exact⟨ab.refl _,λt _ y=>u.mono y⟩
end
set_option maxHeartbeats 3200000
theorem Dz: ∀ {m:List (Int×Sb)} {zs:eM},m.Perm (zs.map sF)-> ∃us:eM,us.Perm zs/\m=us.map sF:=λ{m zs} f=>by
 generalize a:zs.map sF=q at f
 induction f generalizing zs with
 |nil=>nofun
 |cons x _ j=>
  cases zs with
  |nil=>nofun
  |cons z zs=>
   rw[So] at a;obtain⟨i,c⟩:=VI a;obtain⟨us,b,g⟩:=j c;exact⟨z::us,b.cons z,by nofun⟩
 |swap x y l=>
  cases zs with
  |nil=>nofun
  |cons z zs=>cases zs with
   |nil=>nofun
   |cons h zs=>
    rw[So,So] at a;obtain⟨i,c⟩:=VI a;obtain⟨o,p⟩:=VI c;exact⟨h::z::zs,.swap z h zs,by nofun⟩
 |trans _ _ d e=>
  obtain⟨us,b,g⟩:=e a;obtain⟨vs,n,k⟩:=d g.symm;exact⟨vs,n.trans b,k⟩
structure pf(K0 P:List (List Int))(zs:eM):Prop where
 nd:(zs.map (·.1)).Nodup
 mem: ∀k,k∈zs.map (·.1)↔k∈K0/\k∈P
theorem pf.out{zs:eM}(T:pf K0 P zs){k:List Int}(b:k∉K0):pf K0 (P++[k]) zs:=⟨T.nd,λa=>by
 rw[T.mem,SL,SI];constructor
 ·exact λh=>⟨h.1,.inl h.2⟩
 ·lia⟩
theorem pf.inn{zs a:eM}(T:pf K0 P zs){k:List Int}{c:Addr}(f:k∈K0)(g:k∉zs.map (·.1))(p:a.Perm (zs++[(k,c)])):pf K0 (P++[k]) a:=by
 have b:(a.map (·.1)).Perm (zs.map (·.1)++[k]):=by have:=p.map (·.1);nofun
 refine⟨b.nodup_iff.mpr ?_,λe=>?_⟩
 ·rw[Th]
  exact⟨T.nd,by simp,λx h y d=>by
   grind[SI]⟩
 ·rw[b.mem_iff,SL,SI,T.mem,SL,SI];constructor
  ·grind
  nofun
section
variable {A:Tb}{xs ys:eM}
theorem yC(id:String)(nl:a≠l)(nq:a≠q)(F:s.heap.get? a=p5 o)(S:cp w o es ep t [])(C:s.heap.get? l=p5 ol)(Sl:cp w ol esl epl tl ys)(m:mW prog w s.heap ys)(hq:s.heap.get? q=p5 oq)(Sq:cp w oq esq epq tq xs)(B:mW prog w s.heap xs)
 (hu:A.units<S7) (hn:ys.length<=1000)
 (h: ∀h' o' d b t' zs,S8 a s.heap h'->h'.get? a=p5 o'->cp w o' d b t' zs->pf (xs.map (·.1)) (ys.map (·.1)) zs->(∀z∈zs,z∈ys)->Q Unit.unit {s with heap:=h'}):
 Sy (model prog w) A (do
  let X <-setEpoch l
  for (h,x) in<-YK l [q,a] (p5 a) do
   Wi [x] do
    if(<-setFind q x h).isSome then
     let _ <-W2 a x h
   Frozenset.unchanged id l X) Q E s:=by
 have j:=Sl.toSetAt;refine R8 (VA C Sl.hd j.fits ?_);refine R8 ?_
 unfold YK;refine R8 (Ts C Sl.hd j.fits ?_);dsimp only;refine R8 (cM ?_);rw[if_pos (by rw[Sl.led,Sl.pl];simp[gh])];refine rP C j ?_
 have wp:=jK w l epl esl;rw[Sl.he] at wp;obtain⟨us,pu,eu⟩:=Dz wp;have ndu:(us.map (·.1)).Nodup:=(pu.map (·.1)).nodup_iff.mpr Sl.nd;have f:o.cls=.type "set":=S.ex.1;refine R8 (W0 _ (λr _ st=> ∃(P n:eM) (h':Heap) (o':Obj) (d:Array (Int×Sb)) (b:Nat) (t':TK) (zs:eM),r=n.map sF/\us=P++n/\st={s with heap:=h'}/\S8 a s.heap h'/\h'.get? a=p5 o'/\cp w o' d b t' zs/\pf (xs.map (·.1)) (P.map (·.1)) zs/\(∀z∈zs,z∈P)/\zs.length<=P.length) (λ_ st=>Sy (model prog w) A (pure Unit.unit) Q E st) ?turn ?fin _ _ ⟨[],us,s.heap,o,es,ep,t,[],eu,rfl,rfl,U5 a s.heap,F,S,⟨S.nd,λk=>by simp⟩,(λz hz=>by omega),by simp⟩)
 case fin=>
  rintro _ st ⟨P,n,h',o',d,b,t',zs,I,K,rfl,p,g,H,T,J,_⟩;have:n=[]:=ZU.mp I.symm;subst this;rw[TZ] at K;subst K;exact Sa (h _ _ _ _ _ zs p g H ⟨T.nd,λk=>by rw[T.mem,(pu.map (·.1)).mem_iff]⟩ λz hz=>pu.mem_iff.mp (J z hz))
 case turn=>
  rintro x r _ st ⟨P,n,h',o',d,b,t',zs,I,K,rfl,p,g,H,T,J,hlen⟩;cases n with
  |nil=>nofun
  |cons y n=>
   rw[So] at I;obtain⟨hx,hr⟩:=VI I;subst hx;have ylen:us.length=ys.length:=pu.length_eq;have lP:P.length+1<=ys.length:=by
    grind
   have v:y∈ys:=pu.mem_iff.mp (by nofun);have W:y.1∉P.map (·.1):=λhq=>by
    grind
   have kk:(KI prog w).is h' y.1 y.2:=fz (m y v) λG e=>(p.2 _ (i0 (m y v) F f)).trans e
   have E2:mW prog w h' zs:=λz hz=>by
    have:z∈ys:=pu.mem_iff.mp (by rw[K];exact Tq _ (J z hz));exact fz (m z this) λG e=>(p.2 _ (i0 (m z this) F f)).trans e
   have Y:mW prog w h' xs:=λz hz=>fz (B z hz) λG e=>(p.2 _ (i0 (B z hz) F f)).trans e
   have ST:h'.get? l=p5 ol:=(p.2 l (S9 nl)).trans C;have V:h'.get? q=p5 oq:=(p.2 q (S9 nq)).trans hq
   show Sy _ _ (do
    Wi [SQ y.2] (do
     if(<-setFind q (.ref y.2) (th y.1)).isSome then do
      let _ <-W2 a (.ref y.2) (th y.1)
      pure Unit.unit
     else pure Unit.unit)
    Frozenset.unchanged id l epl
    pure (ForInStep.yield PUnit.unit)) _ _ _
   have done: ∀(u:Heap),S8 a h' u-> ∀R:ForInStep PUnit->Sc->Prop,R (.yield PUnit.unit) {s with heap:=u}->Sy (model prog w) A (do
    Frozenset.unchanged id l epl
    pure (ForInStep.yield PUnit.unit)) R E {s with heap:=u}:=λu D R hR=>by
    have M:u.get? l=p5 ol:=(D.2 l (S9 nl)).trans ST;unfold Frozenset.unchanged;refine R8 ?_
    refine R8 (VA M Sl.hd j.fits ?_);rw[if_neg (by simp)];exact Sa (Sa hR)
   refine R8 (Tr ?_);refine R8 (qC (s:={s with heap:=h'}) V Sq.toSetAt Y hu kk (λi c hi=>?_) λnm=>?_)
   ·have Z:y.1∈xs.map (·.1):=SM.mpr ⟨_,S5 hi,rfl⟩;rw[if_pos (show(p5 i).isSome=ζ from rfl)];have nz:y.1∉zs.map (·.1):=λhz=>W ((T.mem _).mp hz).2
    refine R8 (pq (s:={s with heap:=h'}) g H E2 hu kk ⋯ (λO=>absurd O nz) λnm2 u G N L t2 U D q2 q3 q4=>?_);refine Sa (done u D _ ⟨P++[y],n,u,G,N,L,t2,U,hr,by nofun,rfl,p.trans D,q2,q3,by rw[SZ];exact T.inn Z nz q4,λz hz=>?_,by rw[q4.length_eq,SG,SG,TX];nofun⟩);grind[SI]
   ·rw[if_neg (show¬(none:Option Nat).isSome=ζ by decide)];exact Sa (done h' (U5 a h') _ ⟨P++[y],n,h',o',d,b,t',zs,hr,by nofun,rfl,p,g,H,by rw[SZ];exact T.out nm,λz hz=>Tq _ (J z hz),by rw[SG];lia⟩)
theorem lg:Slot "set" (dunder Operator.BitAnd.info.2) "set.__and__":=.of (owner:="set") (n:="__and__") (by rfl) (by rfl) (by rfl) (by rfl) (by first|exact .inl (by rfl)|exact .inr (by decide+kernel)) Xb
theorem si:jaT table "set.__and__"=p5 Ux.«frozenset.__and__»:=Yg (id':="frozenset.__and__") (by kernel_rfl) rfl (by decide+kernel) (by kernel_rfl)
theorem uV(a b:Sb):jcS "set.__and__" ⟨[a,b],[]⟩:=by unfold jcS;rw[signature?_of (id:="set.__and__") (n:=['_','_','d','n','a','_','_']) (o:=['t','e','s']) (by rfl) Dw];rfl
theorem wO:fillsNumberSlot (.type "set") "and"=pure true:=by
 rfl
theorem Ny(l r:Sb):Ux.«frozenset.__and__» ⟨[l,r],[]⟩=(do
 let(self,other) <-Frozenset.slot1 "__and__" ⟨[l,r],[]⟩
 let(l,r):=if θ then(other,self) else(self,other)
 if !(<-Frozenset.isAnySet l<&&>Frozenset.isAnySet r) then
  rule s!"frozenset.{"__and__"}.declined"
  return<-ret .notImplemented
 let a <-Frozenset.addrOf l
 let v <-Frozenset.intersection s!"frozenset.{"__and__"}" a r
 ret v):=rfl
theorem EA{B or:Obj}(C:l≠r)(y:s.heap.get? l=p5 B)(Sl:cp w B esl epl tl xs)(q:mW prog w s.heap xs)(D:s.heap.get? r=p5 or)(n:cp w or esr epr tr ys)(p:mW prog w s.heap ys)
 (I:A.units+1<S7) (J:xs.length+ys.length<=1000)
 (h: ∀h' o' d a t' zs,S8 s.heap.objs.size (s.heap.push (aG w)) h'->h'.get? s.heap.objs.size=p5 o'->cp w o' d a t' zs->pf (xs.map (·.1)) (ys.map (·.1)) zs->Q (.ref s.heap.objs.size) {s with heap:=h'}):
 Sy (model prog w) A (U9 .BitAnd (.ref l) (.ref r)) Q E s:=by
 have f:=SetAt.ty y Sl.toSetAt;have o:=SetAt.ty D n.toSetAt;refine ZV f o wO lg ?_
 refine Tx lg f si ?_ (uV _ _)
 rw[Ny];unfold Frozenset.slot1;have H:jaU "__and__" 1 ⟨[SQ l,SQ r],[]⟩=pure (.ref l,[.ref r]):=rfl;rw[H,pure_bind];dsimp only;rw[pure_bind];dsimp only;rw[if_neg ()];dsimp only;refine R8 ?_
 refine R8 (iG f ?_);refine iG o ?_
 rw[if_neg ()];unfold Frozenset.addrOf;rw[pure_bind];refine R8 ?_
 unfold Frozenset.intersection;rw[if_neg (by simpa using S9 C)];unfold Frozenset.baseOf;refine R8 ?_
 refine R8 (Vf f Xb ?_);rw[if_pos rfl];refine Sa ?_
 refine R8 (Ce ?_);unfold Frozenset.addrOf;rw[pure_bind];have F:(s.heap.push (aG w)).get? s.heap.objs.size=p5 (aG w):=Sj _ rfl;have i:(s.heap.push (aG w)).get? r=p5 or:=Sd _ D;have j:(s.heap.push (aG w)).get? l=p5 B:=Sd _ y;have u:s.heap.objs.size≠r:=Uc (Sw D);have t:s.heap.objs.size≠l:=Uc (Sw y);have v:YI {s with heap:=s.heap.push (aG w)} (.ref r) "set":=SetAt.ty (s:={s with heap:=s.heap.push (aG w)}) i n.toSetAt;have E0: ∀us:eM,mW prog w s.heap us->mW prog w (s.heap.push (aG w)) us:=λus G z hz=>fz (G z hz) λo' e=>Sd _ e
 have x:A.in1.units<cLine:=by omega
 refine R8 (Tr ?_);refine R8 (iG v ?_);rw[if_pos rfl,pure_bind];unfold Frozenset.sizeOf;refine R8 ?_
 refine R8 (WF i n.hd n.toSetAt.fits ?_);refine Sa ?_
 refine R8 ?_
 refine R8 (WF j Sl.hd Sl.toSetAt.fits ?_);refine Sa ?_
 by_cases c:esr.size>esl.size
 ·rw[if_pos c];refine yC (s:={s with heap:=s.heap.push (aG w)}) _ t u F (iW w) j Sl (E0 _ q) i n (E0 _ p) x (by omega) λh' o' d a t' zs b g S T m=>?_
  exact Sa (Sa ⟨_,rfl,(λe=>by nofun),h h' o' d a t' zs b g S ⟨T.nd,λk=>by rw[T.mem];exact And.comm⟩⟩)
 ·rw[if_neg c];refine yC (s:={s with heap:=s.heap.push (aG w)}) _ u t F (iW w) i n (E0 _ p) j Sl (E0 _ q) x (by omega) λh' o' d a t' zs b g S T m=>?_
  exact Sa (Sa ⟨_,rfl,(λe=>by nofun),h h' o' d a t' zs b g S T⟩)
end
set_option maxHeartbeats 1000000
section
variable {X:Cx}
def Pl(K:Sf):R2:=λx y H Q=> ∃l r xs ys,x=.ref l/\y=.ref r/\l≠r/\H l=p5 (.tst xs)/\H r=p5 (.tst ys)/\(∀z∈xs,SqT K H z.2 (z.1.map V.int))/\(∀z∈ys,SqT K H z.2 (z.1.map V.int))/\xs.length+ys.length<=1000/\
 ∀a zs,H a=ξ->pf (xs.map (·.1)) (ys.map (·.1)) zs->Q (.ref a) (aV H a (.tst zs))
theorem Ku(k:X.A.units+1<S7):kK X (U9 .BitAnd) (Pl X.K):=by
 intro O s σ H x y v u Q I E J h;obtain⟨l,r,xs,ys,rfl,rfl,d,p,D,G,i,F,q⟩:=h;cases E;cases J;obtain⟨N,z,C,L,f,Sl⟩:=(show b6 X.prog X.w H s.heap l (.tst xs) from I.hok l _ p)
 obtain⟨or,B,j,M,a,n⟩:=(show b6 X.prog X.w H s.heap r (.tst ys) from I.hok r _ D)
 refine EA d f Sl (kx I G) a n (kx I i) k F λh' o' t m t' zs b g S T=>?_
 refine⟨.ref s.heap.objs.size,_,I.laid (t':=s.toks) (λc o e=>?_) (Sn _) (show b6 X.prog X.w _ _ _ (.tst zs) from⟨_,_,_,_,g,S⟩),rfl,q _ _ (I.hok.fresh (Sn _)) T⟩;exact(b.2 c (SW (Sw e))).trans (Sd _ e)
theorem DN:dq X (.builtin "len") (λxs H Q=> ∃a zs,xs=[.ref a]/\H a=p5 (.tst zs)/\zs.length<=1000/\Q (.int zs.length) H):=by
 intro g s σ H xs us Q I r h;obtain⟨a,zs,rfl,c,d,q⟩:=h;obtain⟨u,rfl,e⟩:=fE r;cases e;obtain⟨o,es,ep,t,f,S⟩:=(show b6 X.prog X.w H s.heap a (.tst zs) from I.hok a _ c)
 have b:=S.toSetAt.size;rw[<-b] at q d;exact call_len_set f S.ex S.hd S.toSetAt.fits (by grind) ⟨.int es.size,H,I.tok _,⟨s.toks+1,rfl⟩,q⟩
end
theorem HV {a b:List (List Int)}{zs:eM}(T:pf a b zs)(c:a.Nodup):zs.length=(a.filter λk=>decide (k∈b)).length:=by
 have p:(zs.map (·.1)).Perm (a.filter λk=>decide (k∈b)):=(Tg T.nd (c.filter _)).mpr λk=>by rw[T.mem,S4,zk]
 rw[<-p.length_eq,Sm]
def AK(i j:Nat):FE:=λρ=>match ρ[i]?,ρ[j]? with
 |some (.v (.lst c)),some (.v (.lst d))=>(jo c).bind λa=>(jo d).bind λb=>if(a.Nodup/\b.Nodup)/\a.length+b.length<=1000 then p5 (.int (a.filter λk=>decide (k∈b)).length) else ξ
 |_,_=>ξ
section
variable {X:Cx}{p p1 p3:Pos}
theorem D3(i j:Nat)(E:X.calm=ζ)(hu:X.A.units+10<S7)(hm:X.mg "len"=ξ)(l:X.mg "set"=ξ)(hN:X.N[i]? =p5 x:=by rfl)(U:X.N[j]? =p5 y:=by rfl)(Y:oe X.env.scope x:=by first|exact TJ rfl|exact Ta (TJ rfl)|exact Ta (Ta rfl))(S:oe X.env.scope y:=by first|exact TJ rfl|exact Ta (TJ rfl)|exact Ta (Ta rfl))(a:(x==("__debug__":Str))=false:=by decide)(L:(y==("__debug__":Str))=false:=by decide)
 (M:(x==("__classdict__":Str))=false:=by decide) (v:(y==("__classdict__":Str))=false:=by decide) (hg:Gl X "len":=by rfl) (t:Gl X "set":=by rfl) (hv:TN "len"=p5 (.builtin "len"):=by kernel_rfl) (C:TN "set"=p5 (.type "set"):=by kernel_rfl)
 (B:Sv [.Name x p2] X.env=(θ,eval (.Name x p2) X.env)::Sv [] X.env:=by rfl) (w:Sv [.Name y p4] X.env=(θ,eval (.Name y p4) X.env)::Sv [] X.env:=by rfl) (D:Sv [.BinOp (.Call (.Name "set" p1) [.Name x p2] [] q1) .BitAnd (.Call (.Name "set" p3) [.Name y p4] [] q2) q3] X.env=(θ,eval (.BinOp (.Call (.Name "set" p1) [.Name x p2] [] q1) .BitAnd (.Call (.Name "set" p3) [.Name y p4] [] q2) q3) X.env)::Sv [] X.env:=by rfl) (h: ∀r,(Ue r (Sv [] X.env)).any (·.1)=false:=by intro _;rfl):
 DP X c .s (.Call (.Name "len" p) [.BinOp (.Call (.Name "set" p1) [.Name x p2] [] q1) .BitAnd (.Call (.Name "set" p3) [.Name y p4] [] q2) q3] [] r) (AK i j):=λhid ρ=>
 PE.imp (jB DN hg hm hv (bn (AE (Ku ⋯) (dY (iL E hu) t l C (bn (pv i hN Y a M) bX B) () (by rfl) B (h _)) (dY (iL E hu) t l C (bn (pv j U S L v) bX w) () (by rfl) w (h _))) bX D) () (by rfl) D (h _)) λσ H Q O=>by
  obtain⟨Z,d,a,q⟩:=O;unfold AK at a;split at a
  ·rename_i d1 d2 e1 e2
   obtain⟨k1,f1,a⟩:=Si.mp a;obtain⟨k2,f2,a⟩:=Si.mp a;split at a
   ·rename_i hc
    cases a;obtain⟨⟨n,R⟩,hl⟩:=hc;have:=jp f1;subst this;have:=jp f2;subst this;obtain⟨v1,s1,r1⟩:=Z.sl i _ e1;obtain⟨v2,s2,r2⟩:=Z.sl j _ e2;obtain⟨l1,u1,rfl,g1,w1⟩:=vp r1;obtain⟨l2,u2,rfl,g2,w2⟩:=vp r2;obtain⟨u,rfl,rfl,y1⟩:=i7 w1;obtain⟨G,rfl,rfl,y2⟩:=i7 w2;rw[Sm,Sm] at hl;have t1: ∀z∈u,SqT X.K H z.2 (z.1.map V.int):=λz hz=>jc (b7 y1 z hz)
    have t2: ∀z∈G,SqT X.K H z.2 (z.1.map V.int):=λz hz=>jc (b7 y2 z hz)
    refine⟨.ref l1,s1,l1,u,rfl,g1,t1,n,by grind,λo I n1 f=>?_⟩;have J:ab H (aV H o (.tst I)):=aM n1 _;refine⟨.ref l2,s2,l2,G,rfl,ab.seq J g2,λz hz=>ab.seqT J (t2 z hz),R,⋯,λW z2 n2 b=>?_⟩;have S2:ab (aV H o (.tst I)) (aV (aV H o (.tst I)) W (.tst z2)):=aM n2 _;have g:=J.trans S2;have m:o≠W:=λe=>by grind[aA]
    refine⟨o,W,I,z2,rfl,rfl,m,S2 _ _ aA,aA,λz hz=>ab.seqT g (t1 z (f.mem_iff.mp hz)),λz hz=>ab.seqT g (t2 z (b.mem_iff.mp hz)),by rw[f.length_eq,b.length_eq];omega,λa3 F n3 T=>?_⟩;have S3:=aM n3 (.tst F);have P:=g.trans S3;have T':pf (u.map (·.1)) (G.map (·.1)) F:=⟨T.nd,λk=>by rw[T.mem,(f.map (·.1)).mem_iff,(b.map (·.1)).mem_iff]⟩
    have l3:=HV T' n;have b3:F.length<=u.length:=by
     rw[l3];have:=UP (λk=>decide (k∈G.map (·.1))) (u.map (·.1));nofun
    refine⟨a3,F,rfl,aA,⋯,?_⟩;rw[l3];exact q _ _ P .int
   nofun
  nofun
end
end
end Lake
namespace PySem
noncomputable section
section
variable {prog:SS}{w:Tf}{K:Type} [DecidableEq K]{knd:HeapKind prog w K}{A:Tb}
theorem IC {d a:Addr}{xs:List (K×Addr×Sb)}{k:K}{v:Sb}{Q:Sb->Sc->Prop}(hu:knd.room A)(hkey:knd.is s.heap k a)(hm:s.heap.DictOfH knd d xs)
 (hold: ∀p,Zm xs k=p5 p->Q p.2 {s with toks:=s.toks+knd.draws k})
 (hnew:Zm xs k=ξ-> ∀h',h'.DictOfH knd d (storedH xs k a v)->S8 d s.heap h'->Q v {s with heap:=h',toks:=s.toks+knd.draws k})
 (hsz:xs.length<=SC):Sy (model prog w) A (ZO d (.ref a) v) Q E s:=by
 obtain⟨o,es,ep,ho,hc,hd,he,his,hn⟩:=hm;unfold ZO
 try with_reducible refine Tr ?_
 refine R8 (knd.pyHash hu hkey ?_);refine R8 (wpAny_dictFind_heap (s:={s with toks:=s.toks+knd.draws k}) hu hkey ho hd he his hn ?_ ?_)
 ·intro hno;have hnot:k∉xs.map (·.1):=not_mem_keys_of_get hno
  refine R8 (Xo (R8 (wpAny_updateDictKeys (hz:=by have e:=size_of_entries he;nofun) (s:={s with toks:=s.toks+knd.draws k}) ho hd (Sa (hnew (Xc hno) _ ⟨_,_,ep+1,Ti _ ho (Obj.isFreed_of_dict (ZP hd _)),
   hc.mapDictKeys _,ZP hd _,?_,?_,?_⟩ (To ..))))))
  ·rw[jbJ (Xc hno)];simp[he,entryOfKey]
  ·rw[jbJ (Xc hno)];intro x hx;rcases SL.mp hx with hx|hx
   ·exact knd.keeps (his x hx) ho hd (To ..)
   ·simp only[SI] at hx;subst hx;exact knd.keeps hkey ho hd (To ..)
  ·rw[jbJ (Xc hno)];grind[SI]
 ·intro j p hj;refine R8 (W9 (s:={s with toks:=s.toks+knd.draws k}) ho hd ?_);rw[entry_at he j,hj];exact R8 (Xo (Sa (hold p (atKey_of_get hn hj))))
theorem mh(knd:HeapKind prog w K)(d a:Addr)(hd:(d==UT)=θ)(dflt:Sb):
 MeetsIn prog w (Ux.«dict.setdefault» ⟨[.ref d,.ref a,dflt],[]⟩) (λA R s=>knd.room A.in1/\ ∃k xs,knd.is s.heap k a/\s.heap.DictOfH knd d xs/\xs.length<=SC/\
  (∀p,Zm xs k=p5 p->R (.ok (.ret p.2)) {s with toks:=s.toks+knd.draws k})/\
  (Zm xs k=ξ-> ∀h',h'.DictOfH knd d (storedH xs k a dflt)->S8 d s.heap h'->R (.ok (.ret dflt)) {s with heap:=h',toks:=s.toks+knd.draws k})):=
 .of_wp λA R s hq_=>by
  obtain⟨hu,k,xs,hkey,hm,hz,h1,h2⟩:=hq_;unfold Ux.«dict.setdefault»;refine R8 ?_
  unfold jcY;refine R8 (Zy hm.typeIs ?_);show Sy _ _ (pure (d,SQ a,p5 dflt)) _ _ s;refine Sa ?_
  show Sy _ _ (if(d==UT)=ζ then _ else(ZO d (.ref a) dflt>>=_)) _ _ s;rw[if_neg (by nofun)];exact R8 (IC hu hkey hm (λp hp=>Sa ⟨p.2,rfl,h1 p hp⟩) (λhn h' hm' hs'=>Sa ⟨dflt,rfl,h2 hn h' hm' hs'⟩) hz)
end
end
end PySem
namespace Lake
noncomputable section
open PySem PySem.Spec PyProof.Rows
section
variable {X:Cx}{A:Tb}
theorem F0 {kvs:List (List bj×V)}{k:List bj}(B:A.units+1<S7)(I:Inv X aa σ H s)(e:H a=p5 (.dT kvs))(h:H b=p5 (.tup (k.map kV)))(l:kvs.length<SC)(C:bS z r)
 (o: ∀v j s',dh kvs k=p5 v->Inv X aa σ H s'->bS v j->Q j s') (J: ∀s',dh kvs k=ξ->Inv X aa σ (aV H a (.dT (iJ kvs k z))) s'->Q r s'):
 Sy (model X.prog X.w) A (call (.builtin "dict.setdefault") [.ref a,.ref b,r]) Q E s:=by
 obtain⟨K,m,xs,d,g⟩:=xm I.hok e;have hz:xs.length<=sizeLine:=by rw[<-Vd d];exact K
 have G:(iJ kvs k z).length<=sizeLine:=by grind[jC]
 refine jaR XS g.typeIs PySem.F.entry_dict_setdefault (PySem.F.args_dict_setdefault_3 _ _ _) (mh (WU (bW X.prog X.w)) a b m r) ⟨TV B,k,xs,kR I.hok h,g,hz,λp D=>?_,λM h' f x=>?_⟩
 ·have q:=d.val k;rw[D] at q;cases ev:dh kvs k with
  |none=>rw[ev] at q;exact q.elim
  |some v=>rw[ev] at q;exact o v _ _ ev (I.tok _) q
 ·have q:=d.val k;rw[M] at q;cases ev:dh kvs k with
  |some v=>rw[ev] at q;exact q.elim
  |none=>
   refine J _ ev ?_
   obtain⟨q,es,ep,n,t,u,y,_,L⟩:=f;refine u0 I (by rw[e];exact True.intro) x ⟨q,n⟩ ⟨G,m,_,(d.put k h C).keeps λc ys i=>?_,q,es,ep,n,t,u,y,L⟩;rw[az (K8 i e (λz=>nomatch z))];exact i
end
def PN(g ty f:TE):TE:=λσ H Q=>g σ H λx d=> ∃a,x=.ref a/\Qw d a/\ty σ d λy e=>f σ e λz c=> ∃kvs k b,y=.ref b/\c a=p5 (.dT kvs)/\c b=p5 (.tup (k.map kV))/\kvs.length<SC/\
 (∀v,dh kvs k=p5 v->Q v c)/\(dh kvs k=ξ->Q z (aV c a (.dT (iJ kvs k z))))
section
variable {X:Cx}{apos:Pos}
theorem KA(R:X.A.units+1<S7)(O:PE X o td)(E:PE X e ty)(Z:PE X f tx)(m:M2 X o "setdefault" apos e f cpos):PE X (.Call (.Attribute o "setdefault" apos) [e,f] [] cpos) (PN td ty tx):=by
 intro g s σ H Q I h;refine jaS m.base m.few m.line YW XS PySem.F.type_dict_setdefault (bC (O g s σ H _ I h) λu r i=>?_);obtain⟨x,J,n,M,a,C,d,L⟩:=i;subst C;obtain rfl:u=SQ a:=M;obtain⟨U,W,_⟩:=GJ n d;refine⟨U,W,?_⟩
 rw[m.trees];refine V0 rfl (Wo (VZ (bC (E g r σ J _ n L) λS N ⟨y,H2,T,ry,P⟩=>
  VZ (bC (Z g N σ H2 _ T P) λfv s3 ⟨z,D,Y,p,kvs,k,b,V,K,q,t,w,G⟩=>Yq ?_))))
 subst V;obtain rfl:S=SQ b:=ry;exact F0 R Y K q t p (λv w' B l c j=>⟨v,D,c,j,w v l⟩) λB l c=>⟨z,_,c,p,G l⟩
end
end
end Lake
namespace HT
noncomputable section
open PySem PyProof.Rows
theorem Hd(A:Tb)(s:Sc)(a:Int)(t:Tok)(c:Int)(u:Tok)(prog:SS)(w:Tf)(E:Sb->Sc->Prop)(Q:Sb->Sc->Prop)(h:Q (.bool (χ (c<a))) s):
 Sy (model prog w) A (richCompare .Gt (.int a t) (.int c u)) Q E s:=
 (jgA h:Sy (model prog w) A (Ub .Gt (.int a t) (.int c u)) Q E s)
section
open PySem.SeqAt
open PySem.AutoSeq1 (wpAny_loadPart')
open PySem.MeetsSeq PySem.MeetsSeq2 PySem.MeetsSeq3
theorem sk(l b:Addr)(items f:Array Sb)(n M:Nat)(N I:Option Addr)(U G:Array (Option Sb))(ns D:List Int)(L:UO items.toList ns)(K:UO f.toList D):
 Meets (Ux.«tuple.__gt__» ⟨[.ref l,.ref b],[]⟩)
  (λ_ R s=>s.heap.get? l=p5 {cls:=.type "tuple",dict:=N,data:=.seq items n,slots:=U}/\s.heap.get? b=p5 {cls:=.type "tuple",dict:=I,data:=.seq f M,slots:=G}/\
    R (.ok (.ret (.bool (lexLt D ns)))) s):=
 .of_wp λprog w A R s h=>by
  obtain⟨E,g,d,tk,os⟩:=s;obtain⟨O,T,h⟩:=h;have W:=YC;have Z:items.size=ns.length:=by rw[<-L.length];rfl
  have X:f.size=D.length:=by rw[<-K.length];rfl
  wp_walk using T1 O,T1 T,VP _ (λp b s'=>b.1=ξ/\s'=⟨E,g,d,tk,os⟩/\ ∃(vs F:List Sb) (j k:List Int),p=vs.zip F/\
   UO vs j/\UO F k/\j.length+f.size=k.length+items.size/\R (.ok (.ret (.bool (lexLt k j)))) ⟨E,g,d,tk,os⟩) _
  case turn=>
   rintro⟨y,x⟩ p b s' ⟨r,rfl,vs,F,j,k,hz,z,m,i,hR⟩;cases z with
   |nil=>nofun
   |cons a t C=>
    cases m with
    |nil=>nofun
    |cons c u B=>
     rw[WQ] at hz;injection hz with J v
     injection J with Q P
     subst Q P;rw[lexLt_cons] at hR;simp only[SN] at i;obtain⟨e,S,o⟩:=x6 A.in1 ⟨E,g,d,tk,os⟩ a t c u;refine R8 (S prog w _ _ ?_);cases e with
     |true=>
      rw[if_pos (o.mp rfl).symm] at hR
      wp_walk
      exact⟨rfl,rfl,_,_,_,_,v,C,B,by grind,hR⟩
     |false=>
      rw[if_neg (λq=>absurd (o.mpr q.symm) UU)] at hR;have H:=Hd A.in1 ⟨E,g,d,tk,os⟩ a t c u prog w
      wp_walk using H
      exact⟨_,rfl,by omega⟩
  case fin=>
   rintro⟨Y,V⟩ s' ⟨r,rfl,vs,F,j,k,hz,z,m,i,hR⟩;simp only at r;subst r;have hv:lexLt k j=decide (f.size<items.size):=by
    cases z with
    |nil=>
     cases m with
     |nil=>
      simp only[T3] at i;rw[j2];exact(zq ⋯).symm
     |cons c u hw=>
      simp only[T3,SN] at i;rw[jx];exact(zq (by nofun)).symm
    |cons a t hv=>
     cases m with
     |nil=>
      simp only[T3,SN] at i;rw[ji];exact(zm ⋯).symm
     |cons c u hw=>
      nofun
   rw[hv] at hR
   wp_walk
   exact⟨_,rfl,by simpa [Xe] using hR⟩
  case h=>
   exact⟨rfl,rfl,items.toList,f.toList,ns,D,rfl,L,K,⋯,h⟩
end
section
variable {A:Tb}{s:Sc}
theorem gt_tupInts{items a:Array Sb}(v:jco s.heap l items)(t:jco s.heap b a)(y:UO items.toList ns)(u:UO a.toList ms)
 (r:A.units<S7) (h:Q (.bool (lexLt ms ns)) s):Sy (model prog w) A (Ub .Gt (.ref l) (.ref b)) Q E s:=by
 obtain⟨⟨cls,p,data,z⟩,o,m,n,j⟩:=id v;obtain⟨⟨k,g,i,f⟩,e,c,q,d⟩:=id t;simp only at m j c d;subst m j c d;exact Y5 (op:=.Gt) ⟨_,o,rfl⟩ ⟨_,e,rfl⟩ PySem.F.slot_tuple_gt PySem.F.entry_tuple_gt (PySem.F.args_tuple_gt_2 _ _) (sk l b items a n q p g z f ns ms y u)
  ⟨o,e,show Z9 (lexLt ms ns)≠ZE/\Q (.bool (lexLt ms ns)) s from⟨(λx=>nomatch x),h⟩⟩ r
end
end
end HT
namespace Lake
noncomputable section
open PySem PySem.Spec PyProof.Rows
section
variable {X:Cx}
def PL(K:Sf):R2:=λx y H Q=> ∃a b ns c,x=.ref a/\y=.ref b/\SqT K H a (ns.map V.int)/\SqT K H b (c.map V.int)/\Q (.bl (HT.lexLt c ns)) H
theorem LT(f:X.A.units<S7):kK X (Ub .Gt) (PL X.K):=by
 intro r s σ H x y v u Q I o p h;obtain⟨a,b,ns,e,rfl,rfl,g,n,q⟩:=h;cases o;cases p;obtain⟨d,m,j,_⟩:=I.tuple g;obtain⟨c,l,i,_⟩:=I.tuple n;have k:UO d.toArray.toList ns:=gj m;have i2:UO c.toArray.toList e:=gj l;exact HT.gt_tupInts j i k i2 f ⟨.bl (HT.lexLt e ns),H,I,rfl,q⟩
def CT:D->D->Option D
 | .tup xs,.tup ys=>(b9 xs).bind λns=>(b9 ys).map λa=>.bl (HT.lexLt a ns)
 |_,_=>ξ
theorem LV {K:Sf}:rR K .s (PL K) CT:=by
 intro H hid v u x y d Q t h k j q;unfold CT at h;split at h
 ·rename_i xs ys
  cases e1:b9 xs with
  |none=>nofun
  |some ns=>
   cases e2:b9 ys with
   |none=>nofun
   |some g=>
    rw[e1,e2] at h;cases h;obtain⟨a,i,rfl,p,f,e⟩:=k.tup;obtain⟨b,o,rfl,r,l,c⟩:=j.tup;rw[cJ e1] at e;rw[cJ e2] at c;have n:=iY e;have m:=iY c;subst n m;exact⟨a,b,ns,g,rfl,rfl,f,l,q _ H (ab.refl _) .bl⟩
 nofun
end
abbrev uJ:=List (List bj×List D)
def oS(i:Nat)(ρ:aC):Option uJ:=match ρ[i]? with
 |some (.ob (.dN kvs))=>p5 kvs
 |_=>ξ
theorem dU(h:oS i ρ=p5 kvs):ρ[i]? =p5 (.ob (.dN kvs)):=by
 unfold oS at h;grind
def Mo(kvs:uJ)(k:List bj):uJ:=if(kvs.any λz=>decide (z.1=k))=ζ then kvs else kvs++[(k,[])]
def dv:uJ->List bj->D->uJ
 | [],k,d=>[(k,[d])]
 |z::r,k,d=>if z.1=k then(z.1,z.2++[d])::r else z::dv r k d
def P8(us:List (List bj×V))(bs:List Addr)(kvs:uJ):Prop:=us.map (·.1)=kvs.map (·.1)/\us.map (·.2)=bs.map V.ref
theorem v9(k:List bj)(d:D): ∀ {us:List (List bj×V)} {bs:List Addr} {kvs:uJ},P8 us bs kvs->(dh us k=ξ/\Mo kvs k=kvs++[(k,[])]/\dv kvs k d=kvs++[(k,[d])])\/ ∃q b m,bs[q]? =p5 b/\kvs[q]? =p5 (k,m)/\dh us k=p5 (.ref b)/\Mo kvs k=kvs/\dv kvs k d=kvs.set q (k,m++[d])
 | [],bs,kvs,h=>by
   have:kvs=[]:=by have:=congrArg Uk h.1;simpa using this.symm
   subst this;exact .inl ⟨rfl,rfl,rfl⟩
 |u::us,bs,kvs,h=>by
  obtain⟨n,o⟩:=h;cases kvs with
  |nil=>nofun
  |cons z kvs=>
   cases bs with
   |nil=>nofun
   |cons b bs=>
    rw[So,So] at n o;injection n with j p
    injection o with i s
    obtain⟨a,v⟩:=u;obtain⟨t,c⟩:=z;have j:a=t:=j;have i:v=.ref b:=i;subst j i
    by_cases e:a=k
    ·subst e;refine .inr ⟨0,b,c,rfl,rfl,mC rfl,?_,?_⟩
     ·simp[Mo]
     ·simp[dv]
    ·have w:dh ((a,V.ref b)::us) k=dh us k:=l7 e;have r:dv ((a,c)::kvs) k d=(a,c)::dv kvs k d:=by rw[dv,if_neg e]
     have y:(((a,c)::kvs).any λz=>decide (z.1=k))=(kvs.any λz=>decide (z.1=k)):=by nofun
     rw[w,r];unfold Mo;rw[y];rcases v9 k d (us:=us) (bs:=bs) (kvs:=kvs) ⟨p,s⟩ with⟨f,g,l⟩|⟨q,b',m,f,g,l,x,A⟩
     ·refine .inl ⟨f,?_,by rw[l];rfl⟩;unfold Mo at g;grind
     ·refine .inr ⟨q+1,b',m,by simpa using f,by simpa using g,l,?_,by nofun⟩;unfold Mo at x;nofun
theorem x9 {α:Type}{l:List α}{i:Nat}{x:α}(h:l[i]? =p5 x):l.set i x=l:=by
 refine Wk λj=>?_
 rw[jaP];split
 ·rename_i e;subst e
  rw[if_pos (Sz.mp h).1,h]
 ·rfl
theorem Iw {us:List (List bj×V)}{k:List bj}{v:V}(h:dh us k=ξ):iJ us k v=us++[(k,v)]:=by
 unfold iJ;rw[if_neg];intro q;grind[dh,V5]
theorem FD(h:a≠b):aV (aV H a o) b u=aV (aV H b u) a o:=by
 funext x
 by_cases c:x=b
 ·subst c;rw[aA,az (S9 h),aA]
 ·rw[az c]
  by_cases d:x=a
  ·grind[aA]
  ·grind[az]
section
variable {K:Sf}{c:Ct}{ρ:aC}{σ:St}
theorem SR.dn(h:SR K c hid ρ σ H){kvs:uJ}(e:oS i ρ=p5 kvs): ∃a us bs,σ[i]? =p5 (p5 (.ref a))/\(hid a=ζ/\c.H₀ a=ξ)/\H a=p5 (.dT us)/\P8 us bs kvs/\bs.Nodup/\Paired (NOk K c hid H a) bs (kvs.map λz=>NO.l z.2):=by
 obtain⟨a,b,j,us,bs,m,d,k,g,f⟩:=h.sl i _ (dU e);exact⟨a,us,bs,b,j,m,⟨d,k⟩,g,f⟩
theorem SR.dnApp(h:SR K c hid ρ σ H){i q:Nat}{kvs:uJ}{k:List bj}{m:List D}{bs:List Addr}(e:oS i ρ=p5 kvs)(E:σ[i]? =p5 (p5 (.ref a)))(J:hid a=ζ/\c.H₀ a=ξ)(F:H a=p5 (.dT us))(s:P8 us bs kvs)(A:bs.Nodup)(o:Paired (NOk K c hid H a) bs (kvs.map λz=>NO.l z.2))
 (p:bs[q]? =p5 b) (L:kvs[q]? =p5 (k,m)) (y:H b=p5 (.nst a (.lst xs))) (r:Rep K (vw H hid) w d):SR K c hid (ρ.set i (.ob (.dN (kvs.set q (k,m++[d]))))) σ (aV H b (.nst a (.lst (xs++[w])))):=by
 obtain⟨b',x,B⟩:=Lake.Paired.get o (show(kvs.map λz=>NO.l z.2)[q]? =p5 (.l m) by nofun);rw[p] at x;cases x;obtain⟨⟨f,g⟩,ys,j,G⟩:=B;rw[y] at j;cases j;have I:a≠b:=λz=>by nofun
 have C:(kvs.map (·.1))[q]? =p5 k:=by nofun
 refine h.putO (dU e) trivial trivial E (.inr ⟨_,y⟩) f g nofun ⟨J,us,bs,by rw[az I];exact F,?_,s.2,A,?_⟩
 ·rw[jeV,x9 C];exact s.1
 ·rw[jeV];refine Paired.setN A o p ⟨⟨f,g⟩,_,aA,?_⟩ λz u n t=>t.mono (λv q=>by rw[az n];exact q) (by rw[cm f];exact ab.refl _) λ_=>t.at.1.1
  rw[cm f];exact G.append (.cons r .nil)
end
theorem PE.post(h:PE X e t):PE X e (λσ H Q=>t σ H λx f=> ∀b s,Inv X b σ f s-> ∃a,Inv X b σ a s/\Q x a):=by
 intro b s σ H Q I q;refine bC (h b s σ H _ I q) λu s' d=>?_
 obtain⟨x,f,g,r,w⟩:=d;obtain⟨a,c,i⟩:=w b s' g;exact⟨x,a,c,r,i⟩
section
variable {X:Cx}{pos p1 apos cpos:Pos}{fk:aC->Option (List Int)}{fv:FE}
def Bx(i:Nat)(fk:aC->Option (List Int))(fv:FE):FS:=λρ=>match oS i ρ,fk ρ with
 |some kvs,some ns=>(match fv (ρ.set i (.ob (.dN (Mo kvs (iK ns))))) with
  |some d=>if kvs.length<=1000/\ ∀z∈kvs,z.2.length<=1000 then .nx (ρ.set i (.ob (.dN (dv kvs (iK ns) d)))) else .no
  |none=>.no)
 |_,_=>.no
theorem IF(i:Nat)(hu:X.A.units+1<S7)(slot:Slot "list" "append" "list.append")(hty:typeOf (.builtin "list.append")=pure (.type "method_descriptor"))(hk:DK X c ek fk)(hv:DP X c .s ev fv)
 (mm:M2 X (.Name y py) "setdefault" p1 ek (.List [] pl) p2) (hN:X.N[i]? =p5 y:=by rfl) (hv':oe X.env.scope y:=by first|exact TJ rfl|exact Ta (TJ rfl)|exact Ta (Ta rfl)) (hd:(y==("__debug__":Str))=false:=by decide) (hcd:(y==("__classdict__":Str))=false:=by decide)
 (hbase:Ve (.Call (.Attribute (.Name y py) "setdefault" p1) [ek,.List [] pl] [] p2) "append" X.env (eval (.Call (.Attribute (.Name y py) "setdefault" p1) [ek,.List [] pl] [] p2) X.env)=eval (.Call (.Attribute (.Name y py) "setdefault" p1) [ek,.List [] pl] [] p2) X.env:=by rfl)
 (hfew:((Ue cpos (Sv [ev] X.env)).all (λx=> !x.1)&&(XA cpos (VW [] X.env)).all (λx=>x.1.isSome)
   &&χ ([ev].length+([]:List Vv).length+(if([]:List Vv).isEmpty then 0 else 1)<30))=true:=by rfl)
 (hline:(apos.endLine==cpos.line)=true:=by rfl) (hs:Sv [ev] X.env=(θ,eval ev X.env)::Sv [] X.env:=by rfl) (hplain:(Ue cpos (Sv [] X.env)).any (·.1)=false:=by rfl)
 (hsw:UD (.Call (.Attribute (.Call (.Attribute (.Name y py) "setdefault" p1) [ek,.List [] pl] [] p2) "append" apos) [ev] [] cpos) ξ pos.line X.env=pure false:=by rfl):
 DS X c k (.Expr (.Call (.Attribute (.Call (.Attribute (.Name y py) "setdefault" p1) [ek,.List [] pl] [] p2) "append" apos) [ev] [] cpos) pos) (Bx i fk fv):=λρ=>PS.imp (BK (Mi slot hty IX (PE.post (KA hu (pv i hN hv' hd hcd) (ny λhid=>hk hid ρ) (Hz bX) mm)) (bn (ny λz:bv×aC=>hv z.1 z.2) bX hs) hbase hfew hline hs hplain) hsw) λD σ H hq_=>by
 obtain⟨hid,sr,q⟩:=hq_;unfold Bx at q;split at q
 ·rename_i kvs ns e0 e2
  split at q
  ·rename_i d e3
   split at q
   ·rename_i hz
    obtain⟨a,us,bs,a1,a2,a3,a4,a5,a6⟩:=sr.dn e0;have lu:us.length=kvs.length:=by have:=congrArg Uk a4.1;simpa using this
    refine⟨.ref a,a1,a,rfl,.inr ⟨us,.inl a3⟩,hid,sr,ns,e2,λb H2 s2 hb=>⟨Uv _,λl hl=>?_⟩⟩;have sm:=aM hl (.lst []);have hb':H2 b=p5 (.tup ((iK ns).map kV)):=by rw[Ba];exact hb
    have nla:l≠a:=λz=>by subst z;rw[s2 _ _ a3] at hl;nofun
    refine⟨us,iK ns,b,rfl,sm _ _ (s2 _ _ a3),sm _ _ hb',by rw[lu];exact SK hz.1 (),λv hvv=>?_,λhno=>?_⟩
    ·rcases v9 (iK ns) d a4 with⟨n1,_,_⟩|⟨qq,bq,m,k1,k2,k3,k4,k5⟩
     ·nofun
     ·rw[hvv] at k3;cases k3;rw[k4,x9 (dU e0)] at e3;have s3:=s2.trans sm;have sr3:=sr.ext s3;obtain⟨b',b1,b2⟩:=Lake.Paired.get a6 (show(kvs.map λz=>NO.l z.2)[qq]? =p5 (.l m) by nofun);rw[k1] at b1;cases b1;obtain⟨⟨hb1,hb2⟩,xs,w1,w2⟩:=b2;intro aa s I;refine⟨_,I,⟨bq,a,xs,rfl,s3 _ _ w1⟩,(hid,ρ),sr3,d,e3,λw H4 s4 r4=>?_⟩;have s34:=s3.trans s4;refine⟨bq,a,xs,w,rfl,rfl,s34 _ _ w1,?_,?_⟩
      ·rw[w2.length];exact SK (hz.2 _ (S5 k2)) ()
      ·rw[k5] at q;have pr:Paired (NOk X.K c hid H4 a) bs (kvs.map λz=>NO.l z.2):=Paired.mapP a6 λx y z=>z.mono (λ_ w=>s34 _ _ w) (aH s34) λ_=>z.at.1.1
       exact q _ _ hid (SR.dnApp (sr3.ext s4) e0 a1 a2 (s34 _ _ a3) a4 a5 pr k1 k2 (s34 _ _ w1) r4) (by rw[cm hb1];exact aH s34)
    ·rcases v9 (iK ns) d a4 with⟨n1,n2,n3⟩|⟨qq,bq,m,k1,k2,k3,k4,k5⟩
     ·rw[n2] at e3;rw[n3] at q;intro aa s I;have ha2:H2 a=some (.dT us):=s2 _ _ a3;have I2:=I.nest (d:=l) (p:=a) (u:=.lst []) (by rw[az nla,aA]) trivial;have sr2:=sr.ext s2;have nf:=sr2.fresh hl;have sr3:=(sr2.hide sm hl aA).write (o':=.nst a (.lst [])) cQ (sr2.fresh0 hl) (sr2.notOw nf) aA;have ha':bI hid l a=true:=cB a2.1
      let Ha:=aV (aV (aV H2 l (.lst [])) l (.nst a (.lst []))) a (.dT (us++[(iK ns,.ref l)]))
      have eH:aV (aV (aV H2 l (.lst [])) a (.dT (iJ us (iK ns) (.ref l)))) l (.nst a (.lst []))=Ha:=by
       rw[Iw hno,FD (S9 nla)]
      have v1:vw Ha (bI hid l)=vw H2 hid:=by
       show vw (aV _ a _) _=_;rw[cm ha',cm cQ,vE hl]
      have s2':ab (vw H hid) (vw Ha (bI hid l)):=by rw[v1];exact aH s2
      have hal:Ha l=p5 (.nst a (.lst [])):=by show aV _ a _ l=_;rw[az nla,aA]
      have haa:Ha a=p5 (.dT (us++[(iK ns,.ref l)])):=aA;have dp:P8 (us++[(iK ns,V.ref l)]) (bs++[l]) (kvs++[(iK ns,[])]):=⟨by rw[SZ,SZ,a4.1];rfl,by rw[SZ,SZ,a4.2];rfl⟩
      have nd:(bs++[l]).Nodup:=by
       rw[Th];refine⟨a5,by simp,λz hz w hw e=>?_⟩;rw[SI] at hw;subst hw;subst e;obtain⟨_,r⟩:=Lake.Paired.mem a6 hz;obtain⟨o,ho⟩:=r.at.2;rw[s2 _ _ ho] at hl;nofun
      have pr:Paired (NOk X.K c (bI hid l) Ha a) (bs++[l]) ((kvs++[(iK ns,([]:List Lake.D))]).map λz=>NO.l z.2):=by
       rw[SZ];refine Lake.Paired.app1 ⟨⟨cQ,sr2.fresh0 hl⟩,[],hal,.nil⟩ (Lake.Paired.off a6 λz u _ r=>?_);obtain⟨o,ho⟩:=r.at.2;have nb:z≠l:=λe=>by grind
       have na:z≠a:=λe=>by grind
       exact r.mono (λw hw=>by show aV (aV (aV H2 l _) l _) a _ z=_;rw[az na,az nb,az nb];exact s2 _ _ hw) s2' λ_=>cB r.at.1.1
      have sr4:SR X.K c (bI hid l) (ρ.set i (.ob (.dN (kvs++[(iK ns,[])])))) σ Ha:=sr3.putO (dU e0) trivial trivial a1 (.inl rfl) ha' a2.2 nofun ⟨⟨ha',a2.2⟩,us++[(iK ns,V.ref l)],bs++[l],haa,dp.1,dp.2,nd,pr⟩;refine⟨_,I2,?_⟩;rw[eH];refine⟨⟨l,a,[],rfl,hal⟩,(bI hid l,_),sr4,d,e3,λw H4 s4 r4=>?_⟩;refine⟨l,a,[],w,rfl,rfl,s4 _ _ hal,by decide,?_⟩;have lt:i<ρ.length:=(Sz.mp (dU e0)).1;have g4:oS i (ρ.set i (.ob (.dN (kvs++[(iK ns,[])]))))=p5 (kvs++[(iK ns,[])]):=by unfold oS;rw[SX lt]
      have pr4:Paired (NOk X.K c (bI hid l) H4 a) (bs++[l]) ((kvs++[(iK ns,([]:List Lake.D))]).map λz=>NO.l z.2):=Paired.mapP pr λx y z=>z.mono (λ_ w=>s4 _ _ w) (aH s4) λ_=>z.at.1.1
      have lb:bs.length=kvs.length:=by have:=congrArg Uk a4.2;simp at this;nofun
      have sr5:=SR.dnApp (sr4.ext s4) (q:=kvs.length) g4 a1 ⟨ha',a2.2⟩ (s4 _ _ haa) dp nd pr4 (by nofun) (show(kvs++[(iK ns,[])])[kvs.length]? =p5 (iK ns,[]) by simp) (s4 _ _ hal) r4;rw[vL,show(kvs++[(iK ns,([]:List Lake.D))]).set kvs.length (iK ns,[]++[d])=kvs++[(iK ns,[d])] by simp] at sr5;exact q _ _ (bI hid l) sr5 (by rw[cm cQ];exact s2'.trans (aH s4))
     nofun
   ·exact q.elim
  ·exact q.elim
 ·exact q.elim
end
section
variable {st:Stmt}{t:FS}
def HS(i:Nat)(t:FS):FS:=λρ=>match nH i ρ with
 |some []=>t (ρ.set i (.ob (.dN [])))
 |_=>.no
theorem KL(i:Nat)(h:DS X c k st t):DS X c k st (HS i t):=λρ m s σ H D I b=>by
 obtain⟨hid,d,q⟩:=b;unfold HS at q;split at q
 ·rename_i g
  obtain⟨a,us,l,f,e,j,n⟩:=d.dictT g;have:us=[]:=by have:=congrArg Uk n.1;simpa using this
  subst this;have z:=d.putO (b':=.dN []) (o':=.dT []) (fQ g) trivial trivial l (.inl rfl) f e nofun ⟨⟨f,e⟩,[],[],aA,rfl,rfl,.nil,.nil⟩;rw[EE j] at z;exact h _ m s σ H D I ⟨hid,z,q⟩
 ·exact q.elim
def Rq(i:Nat)(ρ:aC):Option aC:=(oS i ρ).map λkvs=>ρ.set i (.v (cW (kvs.map λz=>(z.1,D.lst z.2))))
def Oy(i:Nat)(t:FS):FS:=λρ=>match Rq i ρ with
 |some ρ'=>t ρ'
 |none=>.no
theorem Fl: ∀kvs:uJ,(kvs.map λz=>NO.l z.2).mapM RJ=p5 (kvs.map (·.2))
 | []=>rfl
 |z::r=>by
  rw[So,jcV,Fl r];rfl
theorem MF(i:Nat)(h:DS X c k st t):DS X c k st (Oy i t):=λρ U s σ H D I N=>by
 obtain⟨hid,A,q⟩:=N;unfold Oy at q;split at q
 ·rename_i ρ' e
  obtain⟨kvs,L,rfl⟩:=SO.mp e;obtain⟨a,us,bs,T,W,a3,S,a5,a6⟩:=A.dn L;have lt:=(Sz.mp (dU L)).1;have Q:SR X.K c hid (ρ.set i .no) σ H:=A.forget (by simp) λj s' q=>by
   by_cases B:j=i
   ·nofun
   ·rw[SD (S9 B)] at q;exact .inr q
  have Z: ∀(j:Nat) g,Ow (ρ.set i .no)[j]? ->σ[j]? =p5 (p5 (.ref g))->g≠a/\ ∃u,H g=p5 u/\ ∀p v,u≠ .nst p v:=λj g o q=>by
   have B:j≠i:=λz=>by
    subst z;rw[SX lt] at o;exact o
   rw[SD (S9 B)] at o;refine⟨λz=>?_,?_⟩
   ·subst z;exact A.ap j i g B o (by rw[dU L];trivial) q T
   ·cases w:ρ[j]? with
    |none=>rw[w] at o;exact o.elim
    |some s'=>rw[w] at o;exact A.kind w o q
  have hn: ∀b∈bs,∃o,H b=p5 (.nst a o):=λb m=>let⟨_,r⟩:=Lake.Paired.mem a6 m;r.at.2
  obtain⟨f,d,I',E,J,P,k',b'⟩:=DU (Kf (X:=X)) a6 (Fl kvs) a5 (λb m j g o q l=>by
   obtain⟨n1,w,n2,n3⟩:=Z j g o q;obtain⟨ob,R⟩:=hn b m;rcases l with z|⟨w',F⟩
   ·nofun
   nofun) I Q
  have na:a∉bs:=λm=>by obtain⟨ob,R⟩:=hn a m;nofun
  obtain⟨k1,k2⟩:=k' a na;have e3:f a=p5 (.dT us):=k1.trans a3;have hh:d a=true:=k2.trans W.1;obtain⟨z,y,xs,r,o,es,ep,O,g2⟩:=(show b6 X.prog X.w f s.heap a (.dT us) from I'.hok a _ e3)
  have nt: ∀b xs,f b=p5 (.tup xs)->b≠a:=λb xs w e=>by nofun
  have C:b6 X.prog X.w (aV f a (.frz o (.dT us))) s.heap a (.frz o (.dT us)):=⟨O,z,y,xs,Paired.mapP r λp q z=>⟨z.1,by rw[az (nt _ _ z.2.1)];exact z.2.1,z.2.2⟩,o,es,ep,O,g2⟩
  have I2:Inv X U σ (aV f a (.frz o (.dT us))) {s with heap:=s.heap,toks:=s.toks}:=I'.write (x:=a) (e:=a) (by rw[e3];trivial) (.inl rfl) (λb u _ hu=>hu) ⟨o,O⟩ C;have G:=E.reveal (u':=.frz o (.dT us)) hh W.2 λj g ow q l=>by
   obtain⟨n1,_⟩:=Z j g ow q;rcases l with z|⟨w',F⟩
   ·exact n1 z.symm
   lia
  have Y:ab (vw f d) (vw (aV f a (.frz o (.dT us))) (eQ d a)):=jN hh;have M:vw (aV f a (.frz o (.dT us))) (eQ d a) a=p5 (.frz o (.dT us)):=Hh;have rp:Reps X.K (vw (aV f a (.frz o (.dT us))) (eQ d a)) (bs.map V.ref) ((kvs.map (·.2)).map Lake.D.lst):=tO (Paired.mapP P λb v r=>r.mono Y);have kr:KRt X.K (vw (aV f a (.frz o (.dT us))) (eQ d a)) us (kvs.map λz=>(z.1,Lake.D.lst z.2)):=⟨by rw[SJ];exact S.1,by rw[S.2,SJ];rw[SJ] at rp;exact rp⟩
  have n:=G.mark (i:=i) (s:=.v (cW (kvs.map λz=>(z.1,Lake.D.lst z.2)))) ⟨_,T,Bj M kr⟩ id;rw[vL] at n;exact h _ U s σ _ D I2 ⟨eQ d a,n,q.mono (J.trans Y)⟩
 ·exact q.elim
end
set_option maxHeartbeats 4000000
def top(i:Nat):Stmt:=X5.main.body.getD i (.Pass ⟨0,0,0,0⟩)
abbrev gu:Stmt:=top 1
abbrev jw:Stmt:=top 2
abbrev j1:Stmt:=top 4
abbrev mT:Stmt:=top 5
abbrev tS:Stmt:=top 6
abbrev qS:Stmt:=top 7
abbrev xh:Stmt:=top 8
abbrev ut:Stmt:=top 9
abbrev pW:Stmt:=top 10
abbrev sU:Stmt:=top 11
abbrev mJ:Stmt:=top 12
abbrev AW:Stmt:=top 14
abbrev kj:Stmt:=top 15
abbrev lD:Stmt:=top 16
abbrev xT:Stmt:=top 17
abbrev qT:Stmt:=top 19
abbrev lW:Stmt:=top 21
abbrev oH:Stmt:=top 22
abbrev AZ:Stmt:=top 23
abbrev qG:Stmt:=top 24
abbrev BA:Stmt:=top 25
abbrev HK:Stmt:=top 26
abbrev ux:Stmt:=top 27
abbrev fY:Stmt:=top 29
abbrev jz:Stmt:=top 30
abbrev qF:Stmt:=top 31
abbrev rh:Stmt:=top 32
abbrev jZ:Stmt:=top 33
abbrev qO:Stmt:=top 35
abbrev ui:Stmt:=top 36
abbrev qQ:Stmt:=top 37
abbrev oB:Stmt:=top 38
abbrev lw:Stmt:=top 39
abbrev oQ:Stmt:=top 40
abbrev tu:Stmt:=top 41
abbrev oI:Stmt:=top 42
abbrev lE:Stmt:=top 43
abbrev rG:Stmt:=top 44
abbrev mq:Stmt:=top 45
abbrev iV:Stmt:=top 46
abbrev oo:Stmt:=top 47
abbrev gq:Stmt:=top 48
abbrev k9:Stmt:=top 49
structure Bt(K:Sf)(mg:Str->Option Sb):Prop where
 b_abs:mg "abs"=ξ
 b_all:mg "all"=ξ
 b_any:mg "any"=ξ
 b_enumerate:mg "enumerate"=ξ
 b_int:mg "int"=ξ
 b_isinstance:mg "isinstance"=ξ
 b_len:mg "len"=ξ
 b_list:mg "list"=ξ
 b_min:mg "min"=ξ
 b_range:mg "range"=ξ
 b_set:mg "set"=ξ
 b_sorted:mg "sorted"=ξ
 b_tuple:mg "tuple"=ξ
 b_zip:mg "zip"=ξ
 d_order_exchanged:Df K mg "order_exchanged" gu ["order","one","other"]
 d_order_rounds:Df K mg "order_rounds" jw ["order"]
 d_places_from:Df K mg "places_from" j1 xa8
 d_columns_of:Df K mg "columns_of" mT B1
 d_rows_of:Df K mg "rows_of" tS B1
 d_cells_of:Df K mg "cells_of" qS B1
 d_behind:Df K mg "behind" xh B1
 d_is_bare:Df K mg "is_bare" ut B1
 d_is_clear:Df K mg "is_clear" pW E1
 d_is_step:Df K mg "is_step" sU E1
 d_steps_from:Df K mg "steps_from" mJ B2
 d_added:Df K mg "added" AW xa0
 d_oddly_often:Df K mg "oddly_often" kj ["stands"]
 d_oddly_many:Df K mg "oddly_many" lD xa0
 d_border:Df K mg "border" xT ["square","crowd"]
 d_lines_of:Df K mg "lines_of" qT ["square"]
 d_all_stands:Df K mg "all_stands" lW ["n"]
 d_points_of:Df K mg "points_of" oH ["order","half"]
 d_pairs:Df K mg "pairs" AZ ["ones","others"]
 d_grade_by:Df K mg "grade_by" qG ["marks","stand"]
 d_grade:Df K mg "grade" BA B2
 d_lean:Df K mg "lean" HK B2
 d_home_of:Df K mg "home_of" ux B2
 d_cycles_and_leads:Df K mg "cycles_and_leads" fY ["square"]
 d_class_stands:Df K mg "class_stands" jz ["cycles","leads"]
 d_by_homes:Df K mg "by_homes" qF ["square"]
 d_row_from:Df K mg "row_from" rh xa4
 d_taken_apart:Df K mg "taken_apart" jZ ["square"]
 d_law_cell:Df K mg "_law_cell" qO xa7
 d_law_bag:Df K mg "_law_bag" ui ["_law_script","_law_at"]
 d_law_take:Df K mg "_law_take" qQ xa9
 d_law_order:Df K mg "_law_order" oB IH
 d_law_square:Df K mg "_law_square" lw IH
 d_law_wound:Df K mg "_law_wound" oQ ["_law_bag_here"]
 d_law_all:Df K mg "_law_all" tu ["_law_n"]
 d_law_grade:Df K mg "_law_grade" oI ["_law_marks","_law_stand"]
 d_law_grades:Df K mg "_law_grades" lE S0
 d_law_free:Df K mg "_law_free" rG IY
 d_law_border:Df K mg "_law_border" mq xa6
 d_law_is_crowd:Df K mg "_law_is_crowd" iV xa2
 d_law_oddly:Df K mg "_law_oddly" oo xa5
 d_law_class_right:Df K mg "_law_class_right" gq R0
def Qd(k:Nat)(x:Str)(b:List Str)(sp:Sf->Sp):Prop:= ∀ {P:SS} {w:Tf} {K:Sf} {a:Str->Option Sb} {base:Heap} (B:Bt K a),Cl P w K a base k x b (sp K)
theorem Q0:(["size","start","end","further"]:List Str).Nodup:=by decide+kernel
theorem N1:(["stand","a","b","rows","column","row"]:List Str).Nodup:=by decide+kernel
theorem QU:(["stand","a","b","bars","heights","bar"]:List Str).Nodup:=by decide+kernel
theorem PU:(Sr:List Str).Nodup:=by decide+kernel
theorem N2:(["square","stand","bars","a","b"]:List Str).Nodup:=by decide+kernel
theorem IP:(["square","crowd","stand","a","b","end"]:List Str).Nodup:=by decide+kernel
theorem QR:(["square","rings","crosses","ring"]:List Str).Nodup:=by decide+kernel
theorem OE:(["n","stands","bar","stand","height"]:List Str).Nodup:=by decide+kernel
theorem Pd:(["order","half","place","number"]:List Str).Nodup:=by decide+kernel
theorem JT:(["ones","others","right","up","x","y"]:List Str).Nodup:=by decide+kernel
theorem NW:(["cycles","leads","stand"]:List Str).Nodup:=by decide+kernel
theorem PX:(xa3:List Str).Nodup:=by decide+kernel
theorem Pu:(["square","cycles","leads","homes","classes","lead"]:List Str).Nodup:=by decide+kernel
theorem NS:(B3:List Str).Nodup:=by decide+kernel
theorem Oz:(S1:List Str).Nodup:=by decide+kernel
theorem PZ:(xa1:List Str).Nodup:=by decide+kernel
theorem Py:(L1:List Str).Nodup:=by decide+kernel
theorem Pq:(CD:List Str).Nodup:=by decide+kernel
theorem Ox:(["_law_stands","_law_thing","_law_stand"]:List Str).Nodup:=by decide+kernel
theorem Lx:(["_law_stands","_law_thing","_law_one","_law_other"]:List Str).Nodup:=by decide+kernel
theorem PP:(["_law_one","_law_other","_law_stand"]:List Str).Nodup:=by decide+kernel
theorem OF:(Qs:List Str).Nodup:=by decide+kernel
theorem K6:(z0:List Str).Nodup:=by decide+kernel
theorem LD:(A0:List Str).Nodup:=by decide+kernel
section
variable {K:Sf}
theorem hW:bg ["order","one","other","numbers"] ["order","one","other"] (av gu):=by refine⟨rfl,rfl,rfl,?_,rfl,?_,?_⟩<;>decide+kernel
def gw(m:List D->Option D):Prop:=Qd 1 "order_exchanged" ["order","one","other"] λK=>(spP K .s 3 m)
def il: {t:FS // gw (bP .s 4 t)}:=⟨_,λB=>by exact aO (k:=0) B.d_order_exchanged hW () rfl λ_ b A a s H hid E c=>(aj (fj 3 hW.nd (cx mO BL B.b_list (aI (af 0) aR) (hv:=by kernel_rfl)))
 (aj (mX (DP.ef (cz (ag (aK aB aJ (af 0) (af 2) (λ_ _=>rfl)) (ag (aK aB aJ (af 0) (af 1) (λ_ _=>rfl)) al)))) (uR (n:=2) rfl (hX (fK 3 (af 1)) (hX (fK 3 (af 2)) vz))))
 (ao (aL (cx cO jq B.b_tuple (aI (dC 3) aR) (hv:=by kernel_rfl))))))⟩
def lO:FS:=il.1
def lJ:List D->Option D:=bP .s 4 lO
theorem mQ:gw lJ:=il.2
theorem eb:bg ["order","rounds","start","places"] ["order"] (av jw):=by refine⟨rfl,rfl,rfl,?_,rfl,?_,?_⟩<;>decide+kernel
def ja(m:List D->Option D):Prop:=Qd 1 "order_rounds" ["order"] λK=>(spP K .n 1 m)
def lm: {t:FS // ja (bP .n 4 t)}:=⟨_,λB=>by exact aO (k:=0) B.d_order_rounds eb () rfl λ_ c A a s H hid E b=>(aj (fj 1 eb.nd (cU al))
 (aj (cT Tn rfl (DIp.e (bu B.b_range (ag (aP aN cH B.b_len (aI (af 0) aR) (hv:=by kernel_rfl)) al))) (au 2 eb.nd) (aj (fj 3 eb.nd (cU (ag (af 2) al)))
 (aj (qM 16 Tn (bG (jF b.units) oy (aK aB aJ (af 0) (aK aB aJ (dC 3) (l5 aq) (λ_ _=>rfl)) (λ_ _=>rfl)) (af 2) (ba _)) (ao (ir (l6 3 jQ eV UX UY (DA.gf (ag (aK aB aJ (af 0) (aK aB aJ (dC 3) (l5 aq) (λ_ _=>rfl)) (λ_ _=>rfl)) al))))))
 (ao (du (bG (gP b.units) kc (aP (CQ rfl) Jo B.b_min (aI (dC 3) aR) (hv:=by kernel_rfl)) (af 2) (ba _)) (ao (Ga 3 (ir (l6 1 jQ eV UX UY (DA.gf (ag (af 3) al)))))) bL)))))
 (ao (pJ 1))))⟩
def qD:FS:=lm.1
def qE:List D->Option D:=bP .n 4 qD
theorem qV:ja qE:=lm.2
theorem qZ:bg xa8 xa8 (av j1):=by refine⟨rfl,rfl,rfl,?_,rfl,?_,?_⟩<;>decide+kernel
def j7(m:List D->Option D):Prop:=Qd 1 "places_from" xa8 λK=>(spP K .n 3 m)
def mv: {t:FS // j7 (bP .n 3 t)}:=⟨_,λB=>by exact aO (k:=0) B.d_places_from qZ () rfl λ_ c A a s H hid E d=>(ao (aL (cw (N':=["size","start","end","further"]) rfl (a8 (Se rfl)) (DIp.b (bu B.b_range (ag (bY (eU (af 2) (af 1)) (af 0)) al))) (λ_ _ _ _=>(au 3 Q0)) (λ_ _ _ _=>bA) (λ_ _ _ _=>(bY (cA (af 1) (af 3)) (af 0))))))⟩
def sv:FS:=mv.1
def rT:List D->Option D:=bP .n 3 sv
theorem kh:j7 rT:=mv.2
theorem r9:bg B1 B1 (av mT):=by refine⟨rfl,rfl,rfl,?_,rfl,?_,?_⟩<;>decide+kernel
def l0(m:List D->Option D):Prop:=Qd 2 "columns_of" B1 λK=>(spP K .n 3 m)
def n7: {t:FS // l0 (bP .n 3 t)}:=⟨_,λB=>by exact aO (k:=1) B.d_columns_of r9 () rfl λ_ c A a s H hid E b=>(ao (aL (aX (kh B) (b.mono ()) (ag (aP aN cH B.b_len (aI (af 0) aR) (hv:=by kernel_rfl)) (ag (af 1) (ag (af 2) al))))))⟩
def vZ:FS:=n7.1
def uM:List D->Option D:=bP .n 3 vZ
theorem mw:l0 uM:=n7.2
theorem zY:bg B1 B1 (av tS):=by refine⟨rfl,rfl,rfl,?_,rfl,?_,?_⟩<;>decide+kernel
def sP(m:List D->Option D):Prop:=Qd 2 "rows_of" B1 λK=>(spP K .n 3 m)
def sy: {t:FS // sP (bP .n 3 t)}:=⟨_,λB=>by exact aO (k:=1) B.d_rows_of zY () rfl λ_ c A a s H hid E b=>(ao (aL (aX (kh B) (b.mono ()) (ag (aP aN cH B.b_len (aI (af 0) aR) (hv:=by kernel_rfl)) (ag (aK aB aJ (af 0) (af 1) (λ_ _=>rfl)) (ag (aK aB aJ (af 0) (af 2) (λ_ _=>rfl)) al))))))⟩
def Ec:FS:=sy.1
def C1:List D->Option D:=bP .n 3 Ec
theorem um:sP C1:=sy.2
theorem o4:bg ["stand","a","b","rows"] B1 (av qS):=by refine⟨rfl,rfl,rfl,?_,rfl,?_,?_⟩<;>decide+kernel
def rN(m:List D->Option D):Prop:=Qd 3 "cells_of" B1 λK=>(spP K .n 3 m)
def rr: {t:FS // rN (bP .n 4 t)}:=⟨_,λB=>by exact aO (k:=2) B.d_cells_of o4 () rfl λ_ d A a s H hid E c=>(aj (aZ 3 o4.nd (DP.toS (aX (um B) (c.mono ()) (ag (af 0) (ag (af 1) (ag (af 2) al))))))
 (ao (aL (aP ou sV B.b_sorted (aI (l4 (N':=["stand","a","b","rows","column","row"]) rfl 5 (a8 (Se rfl)) (DR (Se rfl)) (a8 (Se rfl)) (DIp.b (ee (DP.toS (aX (mw B) (c.mono ()) (ag (af 0) (ag (af 1) (ag (af 2) al))))))) (λ_ _ _ _=>(au 4 N1)) (λ_ _ _ _=>bA) (λ_ _ _ _=>(ee (af 3))) (λ_ _ _ _=>(au 5 N1)) (λ_ _ _ _=>bA) (λ_ _ _ _=>(cz (ag (af 4) (ag (af 5) al))))) aR) (hv:=by kernel_rfl)))))⟩
def Ah:FS:=rr.1
def zr:List D->Option D:=bP .n 4 Ah
theorem Au:rN zr:=rr.2
theorem Dr:bg B1 B1 (av xh):=by refine⟨rfl,rfl,rfl,?_,rfl,?_,?_⟩<;>decide+kernel
def xM(m:List D->Option D):Prop:=Qd 2 "behind" B1 λK=>(spP K .s 3 m)
def uk: {t:FS // xM (bP .s 3 t)}:=⟨_,λB=>by exact aO (k:=1) B.d_behind Dr () rfl λ_ c A a s H hid E b=>(ao (aL (aX (mQ B) (b.mono ()) (ag (af 0) (ag (af 1) (ag (af 2) al))))))⟩
def E4:FS:=uk.1
def Gu:List D->Option D:=bP .s 3 E4
theorem HP:xM Gu:=uk.2
theorem mA:bg ["stand","a","b","bars","heights"] B1 (av ut):=by refine⟨rfl,rfl,rfl,?_,rfl,?_,?_⟩<;>decide+kernel
def tP(m:List D->Option D):Prop:=Qd 3 "is_bare" B1 λK=>(spP K .s 3 m)
def sS: {t:FS // tP (bP .s 5 t)}:=⟨_,λB=>by exact aO (k:=2) B.d_is_bare mA () rfl λ_ d A c s H hid E a=>(aj (aZ 3 mA.nd (DP.toS (zK (aX (mw B) (a.mono ()) (ag (af 0) (ag (af 1) (ag (af 2) al)))) (uZ aq) vW)))
 (aj (aZ 4 mA.nd (DP.toS (zK (aX (um B) (a.mono ()) (ag (af 0) (ag (af 1) (ag (af 2) al)))) (uZ aq) vW)))
 (ao (aL (zl (aP (pS rfl) Ab B.b_any (aI (cw (N':=["stand","a","b","bars","heights","bar"]) rfl (a8 (Se rfl)) (DIp.b (ee (af 3))) (λ_ _ _ _=>(au 5 QU)) (λ_ _ _ _=>bA) (λ_ _ _ _=>(dw (vP a.units) (uE θ) (aK aB aJ (af 0) (af 5) (λ_ _=>rfl)) (af 4) (by with_unfolding_all rfl)))) aR) (hv:=by kernel_rfl)))))))⟩
def D5:FS:=sS.1
def CI:List D->Option D:=bP .s 5 D5
theorem DC:tP CI:=sS.2
theorem h7:bg ["square","stand","a","b","rings","crosses","marked"] E1 (av pW):=by refine⟨rfl,rfl,rfl,?_,rfl,?_,?_⟩<;>decide+kernel
def qu(m:List D->Option D):Prop:=Qd 4 "is_clear" E1 λK=>(spP K .s 4 m)
def ro: {t:FS // qu (bP .s 7 t)}:=⟨_,λB=>by exact aO (k:=3) B.d_is_clear h7 () rfl λ_ d A a s H hid E c=>(aj (qB (DP.ef (af 0)) (db (n:=2) rfl (aW (au 4 h7.nd) (aW (au 5 h7.nd) di))))
 (aj (uS 6 (N':=Sr) rfl h7.nd (kO (br (a8 (Se rfl)) (br (a8 (Se rfl)) eX))) (DIp.b (ee (DP.toS (aX (Au B) (c.mono ()) (ag (af 1) (ag (af 2) (ag (af 3) al))))))) (λ_ _ _ _=>(db (n:=2) rfl (aW (au 7 PU) (aW (au 8 PU) di)))) (λ_ _ _ _=>bA) (λ_ _ _ _=>(dw (vP c.units) (uE θ) (af 8) (cz (ag (aK aB aJ (af 4) (af 7) (λ_ _=>rfl)) (ag (aK aB aJ (af 5) (af 7) (λ_ _=>rfl)) al))) (by with_unfolding_all rfl))))
 (ao (aL (zl (aP (pS rfl) Ab B.b_any (aI (af 6) aR) (hv:=by kernel_rfl)))))))⟩
def Af:FS:=ro.1
def Ax:List D->Option D:=bP .s 7 Af
theorem zJ:qu Ax:=ro.2
theorem Al:bg E1 E1 (av sU):=by refine⟨rfl,rfl,rfl,?_,rfl,?_,?_⟩<;>decide+kernel
def ug(m:List D->Option D):Prop:=Qd 5 "is_step" E1 λK=>(spP K .s 4 m)
def sQ: {t:FS // ug (bP .s 4 t)}:=⟨_,λB=>by exact aO (k:=4) B.d_is_step Al () rfl λ_ c A a s H hid E b=>(ao (aL (qI (aX (DC B) (b.mono ()) (ag (af 1) (ag (af 2) (ag (af 3) al)))) (qd (aX (zJ B) (b.mono ()) (ag (af 0) (ag (af 1) (ag (af 2) (ag (af 3) al)))))))))⟩
def CC:FS:=sQ.1
def Dg:List D->Option D:=bP .s 4 CC
theorem CZ:ug Dg:=sQ.2
theorem md:bg ["square","stand","bars"] B2 (av mJ):=by refine⟨rfl,rfl,rfl,?_,rfl,?_,?_⟩<;>decide+kernel
def mr(m:List D->Option D):Prop:=Qd 6 "steps_from" B2 λK=>(spP K .n 2 m)
def oa: {t:FS // mr (bP .n 3 t)}:=⟨_,λB=>by exact aO (k:=5) B.d_steps_from md () rfl λ_ d A c s H hid E a=>(aj (aZ 2 md.nd (DP.toS (gO rfl B.b_list B.b_range (aP aN cH B.b_len (aI (af 1) aR) (hv:=by kernel_rfl)))))
 (ao (aL (l4 (N':=["square","stand","bars","a","b"]) rfl 4 (a8 (Se rfl)) (DR (Se rfl)) (a8 (Se rfl)) (DIp.b (ee (af 2))) (λ_ _ _ _=>(au 3 N2)) (λ_ _ _ _=>bA) (λ_ _ _ _=>(ee (af 2))) (λ_ _ _ _=>(au 4 N2)) (λ_ _ _ _=>(gE (DW.dt (kF (bG (jF a.units) oy (af 3) (af 4) (ba _)) (im (c6 (aX (CZ B) (a.mono ()) (ag (af 0) (ag (af 1) (ag (af 3) (ag (af 4) al))))))))))) (λ_ _ _ _=>(cz (ag (af 3) (ag (af 4) (ag (aX (HP B) (a.mono ()) (ag (af 1) (ag (af 3) (ag (af 4) al)))) al)))))))))⟩
def vB:FS:=oa.1
def vN:List D->Option D:=bP .n 3 vB
theorem wk:mr vN:=oa.2
theorem Et:bg xa0 xa0 (av AW):=by refine⟨rfl,rfl,rfl,?_,rfl,?_,?_⟩<;>decide+kernel
def Bg(m:List D->Option D):Prop:=Qd 1 "added" xa0 λK=>(spP K .n 2 m)
def ua: {t:FS // Bg (bP .n 2 t)}:=⟨_,λB=>by exact aO (k:=0) B.d_added Et () rfl λ_ c A a s H hid E b=>(ao (aL (Fg 0 1 rfl (Bh b) B.b_sorted B.b_set)))⟩
def wC:FS:=ua.1
def fH:List D->Option D:=bP .n 2 wC
theorem BN:Bg fH:=ua.2
theorem hI:bg ["stands","odd","stand"] ["stands"] (av kj):=by refine⟨rfl,rfl,rfl,?_,rfl,?_,?_⟩<;>decide+kernel
def j4(m:List D->Option D):Prop:=Qd 1 "oddly_often" ["stands"] λK=>(spP K .n 1 m)
def iv: {t:FS // j4 (bP .n 3 t)}:=⟨_,λB=>by exact aO (k:=0) B.d_oddly_often hI () rfl λ_ c A b s H hid E a=>(aj (IN 1 hI.nd B.b_set)
 (aj (cT Tn rfl (DIp.e (cg (af 0))) (au 2 hI.nd) (ao (du (Jf 1 (eC a) (af 2)) (ao (ir (Jy 1 (eC a) (af 2)))) (ao (ir (Jb 1 (eC a) (af 2)))))))
 (ao (aL (IO 1 rfl B.b_sorted)))))⟩
def gK:FS:=iv.1
def jY:List D->Option D:=bP .n 3 gK
theorem r8:j4 jY:=iv.2
theorem sE:bg xa0 xa0 (av lD):=by refine⟨rfl,rfl,rfl,?_,rfl,?_,?_⟩<;>decide+kernel
def lH(m:List D->Option D):Prop:=Qd 1 "oddly_many" xa0 λK=>(spP K .s 2 m)
def jl: {t:FS // lH (bP .s 2 t)}:=⟨_,λB=>by exact aO (k:=0) B.d_oddly_many sE () rfl λ_ c A a s H hid E b=>(ao (aL (dw (gP b.units) kc (bY (D3 0 1 rfl (Bh b) B.b_len B.b_set) aq) aq (ba _))))⟩
def iw:FS:=jl.1
def eA:List D->Option D:=bP .s 2 iw
theorem vc:lH eA:=jl.2
theorem C2:bg ["square","crowd"] ["square","crowd"] (av xT):=by refine⟨rfl,rfl,rfl,?_,rfl,?_,?_⟩<;>decide+kernel
def xH(m:List D->Option D):Prop:=Qd 7 "border" ["square","crowd"] λK=>(spP K .n 2 m)
def ri: {t:FS // xH (bP .n 2 t)}:=⟨_,λB=>by exact aO (k:=6) B.d_border C2 () rfl λ_ d A a s H hid E c=>(ao (aL (aX (r8 B) (c.mono ()) (ag (DP.toS (l4 (N':=["square","crowd","stand","a","b","end"]) rfl 3 (a8 (Se rfl)) (DR (Se rfl)) (kO (br (a8 (Se rfl)) (br (a8 (Se rfl)) (br (a8 (Se rfl)) eX)))) (DIp.b (cg (af 1))) (λ_ _ _ _=>(au 2 IP)) (λ_ _ _ _=>bA) (λ_ _ _ _=>(cg (DP.toS (aX (wk B) (c.mono ()) (ag (af 0) (ag (af 2) al)))))) (λ_ _ _ _=>(db (n:=3) rfl (aW (au 3 IP) (aW (au 4 IP) (aW (au 5 IP) di))))) (λ_ _ _ _=>bA) (λ_ _ _ _=>(af 5)))) al))))⟩
def pN:FS:=ri.1
def jd:List D->Option D:=bP .n 2 pN
theorem HW:xH jd:=ri.2
theorem lx:bg ["square","rings","crosses"] ["square"] (av qT):=by refine⟨rfl,rfl,rfl,?_,rfl,?_,?_⟩<;>decide+kernel
def qc(m:List D->Option D):Prop:=Qd 2 "lines_of" ["square"] λK=>(spP K .n 1 m)
def r3: {t:FS // qc (bP .n 3 t)}:=⟨_,λB=>by exact aO (k:=1) B.d_lines_of lx () rfl λ_ d A a s H hid E c=>(aj (qB (DP.ef (af 0)) (db (n:=2) rfl (aW (au 1 lx.nd) (aW (au 2 lx.nd) di))))
 (ao (aL (aX (qV B) (c.mono ()) (ag (DP.toS (cw (N':=["square","rings","crosses","ring"]) rfl (a8 (Se rfl)) (DIp.b (Bv (af 1))) (λ_ _ _ _=>(au 3 QR)) (λ_ _ _ _=>bA) (λ_ _ _ _=>(xo c.units (af 2) (af 3))))) al)))))⟩
def Aw:FS:=r3.1
def qA:List D->Option D:=bP .n 3 Aw
theorem Aa:qc qA:=r3.2
theorem e7:bg ["n","stands","bar"] ["n"] (av lW):=by refine⟨rfl,rfl,rfl,?_,rfl,?_,?_⟩<;>decide+kernel
def lN(m:List D->Option D):Prop:=Qd 1 "all_stands" ["n"] λK=>(spP K .n 1 m)
def kb: {t:FS // lN (bP .n 3 t)}:=⟨_,λB=>by exact aO (k:=0) B.d_all_stands e7 () rfl λ_ c A a s H hid E b=>(QSs.to (mD (QS.of (fj 1 e7.nd (cU (ag (cz al) al F9))))
 (mD (QS.of (cT Tn rfl (DIp.e (bu B.b_range (ag (af 0) al))) (au 2 e7.nd) (ao (FR 1 (N':=["n","stands","bar","stand","height"]) rfl e7.nd 4 (a8 (Se rfl)) (DR (Se rfl)) (a8 (Se rfl)) (GV (dC 1)) (λ_ _ _ _=>(au 3 OE)) (λ_ _ _ _=>bA) (λ_ _ _ _=>(bu B.b_range (ag (af 0) al))) (λ_ _ _ _=>(au 4 OE)) (λ_ _ _ _=>(gE (bG (tL b.units) (uE ζ) (af 4) (af 3) (by with_unfolding_all rfl)))) (λ_ _ _ _=>(Cz (af 3) (cz (ag (af 4) al))))))))
 (Br (QS.of (pJ 1))))))⟩
def iy:FS:=kb.1
def de:List D->Option D:=bP .n 3 iy
theorem lM:lN de:=kb.2
theorem uP:bg ["order","half"] ["order","half"] (av oH):=by refine⟨rfl,rfl,rfl,?_,rfl,?_,?_⟩<;>decide+kernel
def oO(m:List D->Option D):Prop:=Qd 1 "points_of" ["order","half"] λK=>(spP K .n 2 m)
def lc: {t:FS // oO (bP .n 2 t)}:=⟨_,λB=>by exact aO (k:=0) B.d_points_of uP () rfl λ_ c A a s H hid E d=>(ao (aL (cw (N':=["order","half","place","number"]) rfl (kO (br (a8 (Se rfl)) (br (a8 (Se rfl)) eX))) (DIp.b (HA (af 0) B.b_enumerate)) (λ_ _ _ _=>(db (n:=2) rfl (aW (au 2 Pd) (aW (au 3 Pd) di)))) (λ_ _ _ _=>bA) (λ_ _ _ _=>(cz (ag (cA (i6 aq (af 2)) (af 1)) (ag (cA (i6 aq (af 3)) (af 1)) al)))))))⟩
def i8:FS:=lc.1
def oz:List D->Option D:=bP .n 2 i8
theorem og:oO oz:=lc.2
theorem Es:bg ["ones","others"] ["ones","others"] (av AZ):=by refine⟨rfl,rfl,rfl,?_,rfl,?_,?_⟩<;>decide+kernel
def BW(m:List D->Option D):Prop:=Qd 1 "pairs" ["ones","others"] λK=>(spP K .s 2 m)
def t6: {t:FS // BW (bP .s 2 t)}:=⟨_,λB=>by exact aO (k:=0) B.d_pairs Es () rfl λ_ c A a s H hid E d=>(ao (aL (aP aN cH B.b_len (aI (l4 (N':=["ones","others","right","up","x","y"]) rfl 4 (kO (br (a8 (Se rfl)) (br (a8 (Se rfl)) eX))) (Qk (yM (DR (Se rfl)) (yM (DR (Se rfl)) JL))) (kO (br (a8 (Se rfl)) (br (a8 (Se rfl)) eX))) (DIp.b (ee (af 0))) (λ_ _ _ _=>(db (n:=2) rfl (aW (au 2 JT) (aW (au 3 JT) di)))) (λ_ _ _ _=>bA) (λ_ _ _ _=>(ee (af 1))) (λ_ _ _ _=>(db (n:=2) rfl (aW (au 4 JT) (aW (au 5 JT) di)))) (λ_ _ _ _=>(gE (DW.dt (kF (bG iR fD (af 2) (af 4) (ba _)) (im (bG iR fD (af 3) (af 5) (ba _))))))) (λ_ _ _ _=>gG)) aR) (hv:=by kernel_rfl))))⟩
def wu:FS:=t6.1
def u9:List D->Option D:=bP .s 2 wu
theorem pC:BW u9:=t6.2
theorem la:bg ["marks","stand","rooks","points"] ["marks","stand"] (av qG):=by refine⟨rfl,rfl,rfl,?_,rfl,?_,?_⟩<;>decide+kernel
def qP(m:List D->Option D):Prop:=Qd 2 "grade_by" ["marks","stand"] λK=>(spP K .s 2 m)
def m5: {t:FS // qP (bP .s 4 t)}:=⟨_,λB=>by exact aO (k:=1) B.d_grade_by la () rfl λ_ c A b s H hid E a=>(aj (aZ 2 la.nd (DP.toS (aX (og B) (a.mono ()) (ag (af 1) (ag aq al)))))
 (aj (aZ 3 la.nd (DP.toS (aX (og B) (a.mono ()) (ag (af 0) (ag aq al)))))
 (ao (aL (cA (cA (eU (eU (aX (pC B) (a.mono ()) (ag (af 2) (ag (af 2) al))) (aX (pC B) (a.mono ()) (ag (af 2) (ag (af 3) al)))) (aX (pC B) (a.mono ()) (ag (af 3) (ag (af 2) al)))) (aX (pC B) (a.mono ()) (ag (af 3) (ag (af 3) al)))) aq)))))⟩
def kW:FS:=m5.1
def rm:List D->Option D:=bP .s 4 kW
theorem ko:qP rm:=m5.2
theorem Ey:bg B2 B2 (av BA):=by refine⟨rfl,rfl,rfl,?_,rfl,?_,?_⟩<;>decide+kernel
def Bp(m:List D->Option D):Prop:=Qd 3 "grade" B2 λK=>(spP K .s 2 m)
def ub: {t:FS // Bp (bP .s 2 t)}:=⟨_,λB=>by exact aO (k:=2) B.d_grade Ey () rfl λ_ c A a s H hid E b=>(ao (aL (aX (ko B) (b.mono ()) (ag (aK aB aJ (af 0) aq (λ_ _=>rfl)) (ag (af 1) al)))))⟩
def uQ:FS:=ub.1
def BZ:List D->Option D:=bP .s 2 uQ
theorem Jh:Bp BZ:=ub.2
theorem rd:bg ["square","stand","rings","crosses","unlike"] B2 (av HK):=by refine⟨rfl,rfl,rfl,?_,rfl,?_,?_⟩<;>decide+kernel
def EM(m:List D->Option D):Prop:=Qd 3 "lean" B2 λK=>(spP K .s 2 m)
def uv: {t:FS // EM (bP .s 5 t)}:=⟨_,λB=>by exact aO (k:=2) B.d_lean rd () rfl λ_ c A b s H hid E a=>(aj (qB (DP.ef (af 0)) (db (n:=2) rfl (aW (au 2 rd.nd) (aW (au 3 rd.nd) di))))
 (aj (aZ 4 rd.nd (eU (aX (ko B) (a.mono ()) (ag (af 2) (ag (af 1) al))) (aX (ko B) (a.mono ()) (ag (af 3) (ag (af 1) al)))))
 (ao (aL (cA (eU (af 4) (aP aN cH B.b_len (aI (af 2) aR) (hv:=by kernel_rfl))) (aP aN cH B.b_len (aI (aX (Aa B) (a.mono ()) (ag (af 0) al)) aR) (hv:=by kernel_rfl)))))))⟩
def zo:FS:=uv.1
def G6:List D->Option D:=bP .s 5 zo
theorem Nt:EM G6:=uv.2
theorem zX:bg B2 B2 (av ux):=by refine⟨rfl,rfl,rfl,?_,rfl,?_,?_⟩<;>decide+kernel
def tU(m:List D->Option D):Prop:=Qd 4 "home_of" B2 λK=>(spP K .s 2 m)
def sL: {t:FS // tU (bP .s 2 t)}:=⟨_,λB=>by exact aO (k:=3) B.d_home_of zX () rfl λ_ c A a s H hid E b=>(ao (aL (cz (ag (aX (Jh B) (b.mono ()) (ag (af 0) (ag (af 1) al))) (ag (aX (Nt B) (b.mono ()) (ag (af 0) (ag (af 1) al))) al)))))⟩
def tI:FS:=sL.1
def cN:List D->Option D:=bP .s 2 tI
theorem tY:tU cN:=sL.2
theorem ci:bg ["square","cycles","leads","stand","crowd","edge","other","other_edge"] ["square"] (av fY):=by refine⟨rfl,rfl,rfl,?_,rfl,?_,?_⟩<;>decide+kernel
def gd(m:List D->Option D):Prop:=Qd 8 "cycles_and_leads" ["square"] λK=>(spP K .s 1 m)
def gx: {t:FS // gd (bP .s 8 t)}:=⟨_,λB=>by exact aO (k:=7) B.d_cycles_and_leads ci () rfl λ_ c A b s H hid E a=>(aj (mB 1 ci.nd)
 (aj (mB 2 ci.nd)
 (aj (cT Tn rfl (DIp.e (cg (DP.toS (aX (lM B) (a.mono ()) (ag (aP aN cH B.b_len (aI (aK aB aJ (af 0) aq (λ_ _=>rfl)) aR) (hv:=by kernel_rfl)) al))))) (au 3 ci.nd) (aj (EO 4 5 rfl ci.nd (ag (DP.toS (cU (ag (af 3) al))) (ag (DP.toS (aX (HW B) (a.mono ()) (ag (af 0) (ag (DP.toS (cU (ag (af 3) al))) al)))) al)))
 (aj (qM 130 Tn (DW.dt (kF (c6 (af 5)) (im (JJ 2 (eC a) (aK aB aJ (af 5) (l5 aq) (λ_ _=>rfl)))))) (aj (qB (DP.ef (JP 2 (eC a) (aK aB aJ (af 5) (l5 aq) (λ_ _=>rfl)) (λ_ _=>rfl))) (db (n:=2) rfl (aW (au 6 ci.nd) (aW (au 7 ci.nd) di))))
 (ao (EO 4 5 rfl ci.nd (ag (DP.toS (aX (BN B) (a.mono ()) (ag (af 4) (ag (af 6) al)))) (ag (DP.toS (aX (BN B) (a.mono ()) (ag (af 5) (ag (af 7) al)))) al))))))
 (ao (du (c6 (af 5)) (ao (rB 2 (eC a) (fW (aK aB aJ (af 5) (l5 aq) (λ_ _=>rfl))) (cz (ag (af 4) (ag (af 5) al))))) (ao (rB 1 (eC a) (fW (af 3)) (af 4))))))))
 (ao (Ez 1 (Ez 2 (aL (cz (ag (af 1) (ag (af 2) al))))))))))⟩
def dX:FS:=gx.1
def cF:List D->Option D:=bP .s 8 dX
theorem kq:gd cF:=gx.2
theorem oW:bg ["cycles","leads"] ["cycles","leads"] (av jz):=by refine⟨rfl,rfl,rfl,?_,rfl,?_,?_⟩<;>decide+kernel
def jt(m:List D->Option D):Prop:=Qd 1 "class_stands" ["cycles","leads"] λK=>(spP K .n 2 m)
def hU: {t:FS // jt (bP .n 2 t)}:=⟨_,λB=>by exact aO (k:=0) B.d_class_stands oW () rfl λ_ d A a s H hid E c=>(ao (aL (cw (N':=["cycles","leads","stand"]) rfl (a8 (Se rfl)) (DIp.b (yi (af 0))) (λ_ _ _ _=>(au 2 NW)) (λ_ _ _ _=>(gE (zR (eC c) (fW (af 2)) (af 1)))) (λ_ _ _ _=>(af 2)))))⟩
def gc:FS:=hU.1
def gk:List D->Option D:=bP .n 2 gc
theorem qX:jt gk:=hU.2
theorem li:bg ["square","homes","stand"] ["square"] (av qF):=by refine⟨rfl,rfl,rfl,?_,rfl,?_,?_⟩<;>decide+kernel
def qU(m:List D->Option D):Prop:=Qd 5 "by_homes" ["square"] λK=>(spP K .s 1 m)
def m4: {t:FS // qU (bP .s 3 t)}:=⟨_,λB=>by exact aO (k:=4) B.d_by_homes li () rfl λ_ c A b s H hid E a=>(aj (mB 1 li.nd)
 (aj (KL 1 (cT Tn rfl (DIp.e (cg (DP.toS (aX (lM B) (a.mono ()) (ag (aP aN cH B.b_len (aI (aK aB aJ (af 0) aq (λ_ _=>rfl)) aR) (hv:=by kernel_rfl)) al))))) (au 2 li.nd) (ao (IF 1 (eC a) UX UY (fW (aX (tY B) (a.mono ()) (ag (af 0) (ag (af 2) al)))) (af 2) ⟨rfl,rfl,rfl,rfl⟩))))
 (ao (MF 1 (aL (af 1))))))⟩
def kS:FS:=m4.1
def kN:List D->Option D:=bP .s 3 kS
theorem zg:qU kN:=m4.2
theorem hY:bg ["start","stands","cycles","leads","row","stand","crowd"] xa4 (av rh):=by refine⟨rfl,rfl,rfl,?_,rfl,?_,?_⟩<;>decide+kernel
def qY(m:List D->Option D):Prop:=Qd 2 "row_from" xa4 λK=>(spP K .n 4 m)
def r6: {t:FS // qY (bP .n 7 t)}:=⟨_,λB=>by exact aO (k:=1) B.d_row_from hY () rfl λ_ c A b s H hid E a=>(aj (fj 4 hY.nd (cU (ag (af 0) al)))
 (aj (cT Tn rfl (DIp.e (cg (af 1))) (au 5 hY.nd) (ao (du (DW.dt (kF (bG (LT (SK (VO _ 64) a.units)) LV (af 5) (af 0) (ba _)) (im (AG (eC a) (fW (af 5)) (af 2))))) (aj (aZ 6 hY.nd (NY () (AG (eC a) (fW (af 5)) (af 3)) (aK aB aJ (lX (eC a) (af 3) (fW (af 5)) (λ_ _=>rfl)) aq (λ_ _=>rfl)) (lX (eC a) (af 2) (fW (af 5)) (λ_ _=>rfl))))
 (ao (du (c6 (KK (vc B) (a.mono ()) (aI (dC 4) (aI (af 6) aR)))) (ao (ir (l6 4 jQ eV UX UY (DA.gf (ag (af 5) al))))) bL))) bL)))
 (ao (pJ 4))))⟩
def kT:FS:=r6.1
def iA:List D->Option D:=bP .n 7 kT
theorem yY:qY iA:=r6.2
theorem d0:bg ["square","cycles","leads","homes","classes"] ["square"] (av jZ):=by refine⟨rfl,rfl,rfl,?_,rfl,?_,?_⟩<;>decide+kernel
def kf(m:List D->Option D):Prop:=Qd 9 "taken_apart" ["square"] λK=>(spP K .s 1 m)
def jf: {t:FS // kf (bP .s 5 t)}:=⟨_,λB=>by exact aO (k:=8) B.d_taken_apart d0 () rfl λ_ d A c s H hid E a=>(aj (qB (DP.ef (aX (kq B) (a.mono ()) (ag (af 0) al))) (db (n:=2) rfl (aW (au 1 d0.nd) (aW (au 2 d0.nd) di))))
 (aj (aZ 3 d0.nd (aX (zg B) (a.mono ()) (ag (af 0) al)))
 (aj (uS 4 (N':=xa3) rfl d0.nd (a8 (Se rfl)) (DIp.b (cg (DP.toS (aX (qX B) (a.mono ()) (ag (af 1) (ag (af 2) al)))))) (λ_ _ _ _=>(au 5 PX)) (λ_ _ _ _=>bA) (λ_ _ _ _=>(cz (ag (lX (eC a) (af 1) (fW (af 5)) (λ_ _=>rfl)) (ag (DP.toS (aX (yY B) (a.mono ()) (ag (af 5) (ag (lX (eC a) (af 3) (fW (aX (tY B) (a.mono ()) (ag (af 0) (ag (af 5) al)))) (λ_ _=>rfl)) (ag (af 1) (ag (af 2) al)))))) al)))))
 (ao (aL (cz (ag (af 4) (ag (DP.toS (cw (N':=["square","cycles","leads","homes","classes","lead"]) rfl (a8 (Se rfl)) (DIp.b (yi (af 2))) (λ_ _ _ _=>(au 5 Pu)) (λ_ _ _ _=>bA) (λ_ _ _ _=>(cz (ag (aK aB aJ (lX (eC a) (af 2) (fW (af 5)) (λ_ _=>rfl)) aq (λ_ _=>rfl)) (ag (af 5) al)))))) al))))))))⟩
def gQ:FS:=jf.1
def dD:List D->Option D:=bP .s 5 gQ
theorem sK:kf dD:=jf.2
theorem xt:bg xa7 xa7 (av qO):=by refine⟨rfl,rfl,rfl,?_,rfl,?_,?_⟩<;>decide+kernel
def qv(m:List D->Option D):Prop:=Qd 1 "_law_cell" xa7 λK=>(spP K .s 2 m)
def se: {t:FS // qv (bP .s 2 t)}:=⟨_,λB=>by exact aO (k:=0) B.d_law_cell xt () rfl λ_ b A a s H hid E c=>(aj (du (bG iR fD (af 1) (aP aN cH B.b_len (aI (af 0) aR) (hv:=by kernel_rfl)) (ba _)) (ao (aL (aK aB aJ (af 0) (af 1) (λ_ _=>rfl)))) bL)
 (ao (aL aq)))⟩
def Az:FS:=se.1
def Av:List D->Option D:=bP .s 2 Az
theorem zU:qv Av:=se.2
theorem g0:bg ["_law_script","_law_at","_law_cell_here","_law_mix","_law_k"] ["_law_script","_law_at"] (av ui):=by refine⟨rfl,rfl,rfl,?_,rfl,?_,?_⟩<;>decide+kernel
def tV(m:List D->Option D):Prop:=Qd 2 "_law_bag" ["_law_script","_law_at"] λK=>(spP K .n 2 m)
def sT: {t:FS // tV (bP .n 5 t)}:=⟨_,λB=>by exact aO (k:=1) B.d_law_bag g0 () rfl λ_ c A a s H hid E b=>(aj (aZ 2 g0.nd (bY (aP FI Mn B.b_abs (aI (aX (zU B) (b.mono ()) (ag (af 0) (ag (af 1) al))) aR) (hv:=by kernel_rfl)) (i6 (i6 (mZ aq aq) (mZ aq aq)) (mZ aq aq))))
 (aj (du (bG OX fD (af 2) (mZ aq aq) (ba _)) (ao (aL (cU (ag (af 2) (ag aq al))))) bL)
 (aj (aZ 3 g0.nd (bY (cA (cA (af 2) (i6 aq (af 1))) aq) aq))
 (aj (cT Tn rfl (DIp.e (bu B.b_range (ag (aP (CJ rfl) Jw B.b_min (aI (aP aN cH B.b_len (aI (af 0) aR) (hv:=by kernel_rfl)) (aI aq aR)) (hv:=by kernel_rfl)) al))) (au 4 g0.nd) (ao (aZ 3 g0.nd (bY (cA (cA (mZ (af 3) aq) (bY (aK aB aJ (af 0) (af 4) (λ_ _=>rfl)) aq)) (i6 aq (af 4))) aq))))
 (ao (aL (cU (ag (af 3) (ag aq al)))))))))⟩
def C4:FS:=sT.1
def nO:List D->Option D:=bP .n 5 C4
theorem D4:tV nO:=sT.2
theorem pa:bg ["_law_bag_here","_law_many","_law_digit"] xa9 (av qQ):=by refine⟨rfl,rfl,rfl,?_,rfl,?_,?_⟩<;>decide+kernel
def Ar:FS:=
 aF (fL (bO (ar wS (ar aY (dZ 0) (aD (.int 1))) (aD (.int 0)))) (aF (bp 2 (ar bo (ar aY (dZ 0) (aD (.int 0))) (ah 1)))
 (aF (eK (cI 0 (aD (.int 0))) (pu (ar mt (ar aY (dZ 0) (aD (.int 0))) (ah 1))))
 (bH (ah 2)))) (dc))
 (aF (eK (cI 0 (aD (.int 0))) (pu (ar bo (ar cr (ar cr (ar fM (ar aY (dZ 0) (aD (.int 0))) (aD (.int 5))) (ar fB (aD (.int 48271)) (ar aY (dZ 0) (aD (.int 1))))) (aD (.int 11))) (aD (.int 2147483647)))))
 (aF (eK (cI 0 (aD (.int 1))) (pu (ar cr (ar aY (dZ 0) (aD (.int 1))) (aD (.int 1)))))
 (bH (ar bo (ar mt (ar bo (ar fB (ar aY (dZ 0) (aD (.int 0))) (aD (.int 69621))) (aD (.int 2147483629))) (aD (.int 8))) (ah 1)))))
def cn:List D->List D->Option (D×List D):=yP .s 3 Ar
theorem eR(B:Bt K mg):Cl P w K mg base 1 "_law_take" xa9 (spE K .s 1 cn):=by
 refine vM (k:=0) B.d_law_take pa () rfl λ_ d A b s H hid a E c=>?_
 exact(aj (du (bG (gP c.units) kc (aK aB aJ (dC 0) aq (λ_ _=>rfl)) aq (ba _)) (aj (aZ 2 pa.nd (bY (aK aB aJ (dC 0) aq (λ_ _=>rfl)) (af 1)))
  (aj (mX (DP.ef (AL (aK aB aJ (dC 0) aq (λ_ _=>rfl)) (af 1))) (fK 0 aq))
  (ao (aL (af 2))))) bL)
  (aj (mX (DP.ef (bY (cA (cA (mZ (aK aB aJ (dC 0) aq (λ_ _=>rfl)) aq) (i6 aq (aK aB aJ (dC 0) aq (λ_ _=>rfl)))) aq) aq)) (fK 0 aq))
  (aj (mX (DP.ef (cA (aK aB aJ (dC 0) aq (λ_ _=>rfl)) aq)) (fK 0 aq))
  (ao (aL (bY (AL (bY (i6 (aK aB aJ (dC 0) aq (λ_ _=>rfl)) aq) aq) aq) (af 1)))))))
theorem kg:bg ["_law_bag_here","_law_n","_law_left","_law_found"] IH (av oB):=by refine⟨rfl,rfl,rfl,?_,rfl,?_,?_⟩<;>decide+kernel
def xJ:FS:=
 aF (dW 2 (HD (ah 1)))
 (aF (dW 3 (bZ (ai)))
 (aF (rD (bO (ar oZ (dZ 2) (bZ (ai)))) (dB (a9 3 1 oY (iO (a9 2 1 sJ (iO (a9 0 1 cn (cV (ae (am cR (ae (dZ 2) (ai))) (ai)))) (cV (ai)))) (cV (ai))))) 16)
 (zI 3)))
def jG:List D->List D->Option (D×List D):=yP .n 4 xJ
theorem oP(B:Bt K mg):Cl P w K mg base 2 "_law_order" IH (spE K .n 1 jG):=by
 refine vM (k:=1) B.d_law_order kg () rfl λ_ d A b s H hid a E c=>?_
 exact(aj (fj 2 kg.nd (gO rfl B.b_list B.b_range (af 1)))
  (aj (fj 3 kg.nd (cU al))
  (aj (qM 16 Tn (bG (jF c.units) oy (dC 2) (cU al) (ba _)) (ao (ir (l6 3 jQ eV UX UY (Bw (l6 2 Nk FL PySem.F.slot_list_pop PySem.F.type_list_pop (Bw (ka 0 (eR B) (c.mono ()) (DA.gf (ag (aP aN cH B.b_len (aI (dC 2) aR) (hv:=by kernel_rfl)) al))) (DA.gf al))) (DA.gf al))))))
  (ao (pJ 3)))))
theorem cq:bg ["_law_bag_here","_law_n","_law_plain","_law_by","_law_rings","_law_crosses","_law_c","_law_d"] IH (av lw):=by refine⟨rfl,rfl,rfl,?_,rfl,?_,?_⟩<;>decide+kernel
def uO:FS:=
 aF (f8 2 (a9 0 1 cn (cV (ae (aD (.int 4)) (ai)))))
 (aF (f8 3 (pR cr (pu (aD (.int 1))) (a9 0 1 cn (cV (ae (ar fw (ah 1) (aD (.int 1))) (ai))))))
 (aF (f8 4 (a9 0 1 jG (cV (ae (ah 1) (ai)))))
 (aF (y8 5 (a9 0 1 jG (cV (ae (ah 1) (ai)))))
 (aF (fL (bO (ar wS (ah 2) (aD (.int 1)))) (aF (bp 4 (HD (ah 1)))
 (dW 5 (bm 1 (d9 (ah 4)) (gN 8) (dH) (ar bo (ar cr (ah 8) (ah 3)) (ah 1))))) (dc))
 (aF (eL (cV (cC (ae (ah 1) (ai)))) (gN 6) (aF (bp 7 (ar bo (ar cr (ah 6) (aD (.int 1))) (ah 1)))
 (fL (bO (ar wS (ar aY (dZ 5) (ah 6)) (ar aY (ah 4) (ah 6)))) (eK (gT 2 (gp (cI 5 (ah 6)) (gp (cI 5 (ah 7)) (kZ)))) (pu (dz (ae (ar aY (dZ 5) (ah 7)) (ae (ar aY (dZ 5) (ah 6)) (ai)))))) (dc))))
 (bH (dz (ae (am iE (ae (ah 4) (ai))) (ae (am iE (ae (dZ 5) (ai))) (ai))))))))))
def ij:List D->List D->Option (D×List D):=yP .s 8 uO
theorem wo(B:Bt K mg):Cl P w K mg base 3 "_law_square" IH (spE K .s 1 ij):=by
 refine vM (k:=2) B.d_law_square cq () rfl λ_ f A d s H hid a E c=>?_
 exact(aj (gH 2 cq.nd (ka 0 (eR B) (c.mono ()) (DA.gf (ag aq al))))
  (aj (gH 3 cq.nd (GS (DP.ef aq) (ka 0 (eR B) (c.mono ()) (DA.gf (ag (eU (af 1) aq) al)))))
  (aj (gH 4 cq.nd (DE.toS (ka 0 (oP B) (c.mono ()) (DA.gf (ag (af 1) al)))))
  (aj (Js 5 cq.nd (ka 0 (oP B) (c.mono ()) (DA.gf (ag (af 1) al))))
  (aj (du (bG (gP c.units) kc (af 2) aq (ba _)) (aj (aZ 4 cq.nd (DP.toS (gO rfl B.b_list B.b_range (af 1))))
  (ao (KQ 5 (N':=B3) rfl cq.nd (a8 (Se rfl)) (DIp.b (cg (af 4))) (λ_ _ _ _=>(au 8 NS)) (λ_ _ _ _=>bA) (λ_ _ _ _=>(bY (cA (af 8) (af 3)) (af 1)))))) bL)
  (aj (cT Tn rfl (DIp.e (bu B.b_range (ag (af 1) al))) (au 6 cq.nd) (aj (aZ 7 cq.nd (bY (cA (af 6) aq) (af 1)))
  (ao (du (bG (gP c.units) kc (aK aB aJ (dC 5) (af 6) (λ_ _=>rfl)) (aK aB aJ (af 4) (af 6) (λ_ _=>rfl)) (ba _)) (ao (mX (DP.ef (cz (ag (aK aB aJ (dC 5) (af 7) (λ_ _=>rfl)) (ag (aK aB aJ (dC 5) (af 6) (λ_ _=>rfl)) al)))) (uR (n:=2) rfl (hX (fK 5 (af 6)) (hX (fK 5 (af 7)) vz))))) bL))))
  (ao (aL (cz (ag (cx cO jq B.b_tuple (aI (af 4) aR) (hv:=by kernel_rfl)) (ag (cx cO jq B.b_tuple (aI (dC 5) aR) (hv:=by kernel_rfl)) al)))))))))))
theorem gr:bg ["_law_bag_here","_law_by","_law_k","_law_rings"] ["_law_bag_here"] (av oQ):=by refine⟨rfl,rfl,rfl,?_,rfl,?_,?_⟩<;>decide+kernel
def jv:FS:=
 aF (f8 1 (pR cr (pu (aD (.int 2))) (a9 0 1 cn (cV (ae (aD (.int 2)) (ai))))))
 (aF (f8 2 (a9 0 1 cn (cV (ae (aD (.int 5)) (ai)))))
 (aF (bp 3 (bm 1 (cC (ae (aD (.int 5)) (ai))) (gN 4) (dH) (ar bo (ar cr (ah 4) (ah 2)) (aD (.int 5)))))
 (bH (dz (ae (am iE (ae (ah 3) (ai))) (ae (am iE (ae (bm 1 (d9 (ah 3)) (gN 4) (dH) (ar bo (ar cr (ah 4) (ah 1)) (aD (.int 5)))) (ai))) (ai)))))))
def gC:List D->List D->Option (D×List D):=yP .s 4 jv
theorem yq(B:Bt K mg):Cl P w K mg base 2 "_law_wound" ["_law_bag_here"] (spE K .s 0 gC):=by
 refine vM (k:=1) B.d_law_wound gr () rfl λ_ e A c s H hid a E d=>?_
 exact(aj (gH 1 gr.nd (GS (DP.ef aq) (ka 0 (eR B) (d.mono ()) (DA.gf (ag aq al)))))
  (aj (gH 2 gr.nd (ka 0 (eR B) (d.mono ()) (DA.gf (ag aq al))))
  (aj (uS 3 (N':=S1) rfl gr.nd (a8 (Se rfl)) (DIp.b (bu B.b_range (ag aq al))) (λ_ _ _ _=>(au 4 Oz)) (λ_ _ _ _=>bA) (λ_ _ _ _=>(bY (cA (af 4) (af 2)) aq)))
  (ao (aL (cz (ag (cx cO jq B.b_tuple (aI (af 3) aR) (hv:=by kernel_rfl)) (ag (cx cO jq B.b_tuple (aI (cw (N':=xa1) rfl (a8 (Se rfl)) (DIp.b (cg (af 3))) (λ_ _ _ _=>(au 4 PZ)) (λ_ _ _ _=>bA) (λ_ _ _ _=>(bY (cA (af 4) (af 1)) aq))) aR) (hv:=by kernel_rfl)) al))))))))
theorem eT:bg ["_law_n","_law_found","_law_bar","_law_longer","_law_begun"] ["_law_n"] (av tu):=by refine⟨rfl,rfl,rfl,?_,rfl,?_,?_⟩<;>decide+kernel
def sN(m:List D->Option D):Prop:=Qd 1 "_law_all" ["_law_n"] λK=>(spP K .s 1 m)
def ox: {t:FS // sN (bP .s 5 t)}:=⟨_,λB=>by exact aO (k:=0) B.d_law_all eT () rfl λ_ d A a s H hid E c=>(QSs.to (mD (JV 1 eT.nd (M3 (Im (Mz HN) HN F9)))
 (mD (QS.of (cT Tn rfl (DIp.e (bu B.b_range (ag (af 0) al))) (au 2 eT.nd) (aj (fj 3 eT.nd (cU al))
 (aj (cT Tn rfl (DIp.e (cg (af 1))) (au 4 eT.nd) (ao (ir (JC 3 (cw (N':=L1) rfl (a8 (Se rfl)) (DIp.b (bu B.b_range (ag (af 0) al))) (λ_ _ _ _=>(au 5 Py)) (λ_ _ _ _=>(gE (bG (tL c.units) (uE ζ) (af 5) (af 4) (by with_unfolding_all rfl)))) (λ_ _ _ _=>(Cz (af 4) (cz (ag (af 5) al)))))))))
 (ao (Ga 3 (aZ 1 eT.nd (af 3))))))))
 (Br (QS.of (aL (af 1)))))))⟩
def nS:FS:=ox.1
def gZ:List D->Option D:=bP .s 5 nS
theorem De:sN gZ:=ox.2
theorem cS:bg ["_law_marks","_law_stand","_law_many","_law_n","_law_i","_law_j"] ["_law_marks","_law_stand"] (av oI):=by refine⟨rfl,rfl,rfl,?_,rfl,?_,?_⟩<;>decide+kernel
def oC(m:List D->Option D):Prop:=Qd 1 "_law_grade" ["_law_marks","_law_stand"] λK=>(spP K .s 2 m)
def kv: {t:FS // oC (bP .s 6 t)}:=⟨_,λB=>by exact aO (k:=0) B.d_law_grade cS () rfl λ_ b A a s H hid E c=>(aj (aZ 2 cS.nd aq)
 (aj (aZ 3 cS.nd (aP aN cH B.b_len (aI (af 1) aR) (hv:=by kernel_rfl)))
 (aj (cT Tn rfl (DIp.e (bu B.b_range (ag (af 3) al))) (au 4 cS.nd) (ao (cT Tn rfl (DIp.e (bu B.b_range (ag (af 3) al))) (au 5 cS.nd) (aj (aZ 2 cS.nd (cA (af 2) (cx jP wa B.b_int (aI (qI (dw iR fD (af 4) (af 5) (ba _)) (qd (dw iR fD (aK aB aJ (af 1) (af 4) (λ_ _=>rfl)) (aK aB aJ (af 1) (af 5) (λ_ _=>rfl)) (ba _)))) aR) (hv:=by kernel_rfl))))
 (aj (aZ 2 cS.nd (cA (af 2) (cx jP wa B.b_int (aI (qI (dw iR fD (af 4) (af 5) (ba _)) (qd (dw iR fD (aK aB aJ (af 0) (af 4) (λ_ _=>rfl)) (aK aB aJ (af 0) (af 5) (λ_ _=>rfl)) (ba _)))) aR) (hv:=by kernel_rfl))))
 (aj (aZ 2 cS.nd (eU (af 2) (cx jP wa B.b_int (aI (qI (dw K4 fD (af 4) (af 5) (ba _)) (qd (dw K4 fD (aK aB aJ (af 1) (af 4) (λ_ _=>rfl)) (aK aB aJ (af 0) (af 5) (λ_ _=>rfl)) (ba _)))) aR) (hv:=by kernel_rfl))))
 (ao (aZ 2 cS.nd (eU (af 2) (cx jP wa B.b_int (aI (qI (dw iR fD (af 4) (af 5) (ba _)) (qd (dw iR fD (aK aB aJ (af 0) (af 4) (λ_ _=>rfl)) (aK aB aJ (af 1) (af 5) (λ_ _=>rfl)) (ba _)))) aR) (hv:=by kernel_rfl)))))))))))
 (ao (aL (af 2))))))⟩
def jD:FS:=kv.1
def oG:List D->Option D:=bP .s 6 jD
theorem oN:oC oG:=kv.2
theorem sn:bg S0 S0 (av lE):=by refine⟨rfl,rfl,rfl,?_,rfl,?_,?_⟩<;>decide+kernel
def lQ(m:List D->Option D):Prop:=Qd 2 "_law_grades" S0 λK=>(spP K .s 2 m)
def ng: {t:FS // lQ (bP .s 2 t)}:=⟨_,λB=>by exact aO (k:=1) B.d_law_grades sn () rfl λ_ c A a s H hid E b=>(ao (aL (cz (ag (aX (oN B) (b.mono ()) (ag (aK aB aJ (af 0) aq (λ_ _=>rfl)) (ag (af 1) al))) (ag (aX (oN B) (b.mono ()) (ag (aK aB aJ (af 0) aq (λ_ _=>rfl)) (ag (af 1) al))) al)))))⟩
def mS:FS:=ng.1
def d8:List D->Option D:=bP .s 2 mS
theorem mI:lQ d8:=ng.2
theorem fc:bg ["_law_square_here","_law_stand","_law_a","_law_b","_law_n","_law_high","_law_k","_law_column"] IY (av rG):=by refine⟨rfl,rfl,rfl,?_,rfl,?_,?_⟩<;>decide+kernel
def rJ(m:List D->Option D):Prop:=Qd 1 "_law_free" IY λK=>(spP K .s 4 m)
def r0: {t:FS // rJ (bP .s 8 t)}:=⟨_,λB=>by exact aO (k:=0) B.d_law_free fc () rfl λ_ b A a s H hid E c=>(aj (aZ 4 fc.nd (aP aN cH B.b_len (aI (af 1) aR) (hv:=by kernel_rfl)))
 (aj (aZ 5 fc.nd (bY (eU (aK aB aJ (af 1) (af 3) (λ_ _=>rfl)) (aK aB aJ (af 1) (af 2) (λ_ _=>rfl))) (af 4)))
 (aj (cT Tn rfl (DIp.e (bu B.b_range (ag (bY (eU (af 3) (af 2)) (af 4)) al))) (au 6 fc.nd) (aj (aZ 7 fc.nd (bY (cA (af 2) (af 6)) (af 4)))
 (aj (du (DW.dt (kF (bG OO fD (af 6) aq (ba _)) (im (bG iR fD (bY (eU (aK aB aJ (af 1) (af 7) (λ_ _=>rfl)) (aK aB aJ (af 1) (af 2) (λ_ _=>rfl))) (af 4)) (af 5) (ba _))))) (ao (aL gG)) bL)
 (ao (du (DW.dt (qi (bG iR fD (bY (eU (aK aB aJ (aK aB aJ (af 0) aq (λ_ _=>rfl)) (af 7) (λ_ _=>rfl)) (aK aB aJ (af 1) (af 2) (λ_ _=>rfl))) (af 4)) (af 5) (ba _)) (qa (bG iR fD (bY (eU (aK aB aJ (aK aB aJ (af 0) aq (λ_ _=>rfl)) (af 7) (λ_ _=>rfl)) (aK aB aJ (af 1) (af 2) (λ_ _=>rfl))) (af 4)) (af 5) (ba _))))) (ao (aL gG)) bL)))))
 (ao (aL gG)))))⟩
def ze:FS:=r0.1
def kB:List D->Option D:=bP .s 8 ze
theorem z9:rJ kB:=r0.2
theorem dd:bg ["_law_square_here","_law_crowd","_law_odd","_law_stand","_law_a","_law_b","_law_heights"] xa6 (av mq):=by refine⟨rfl,rfl,rfl,?_,rfl,?_,?_⟩<;>decide+kernel
def lR(m:List D->Option D):Prop:=Qd 2 "_law_border" xa6 λK=>(spP K .n 2 m)
def jm: {t:FS // lR (bP .n 7 t)}:=⟨_,λB=>by exact aO (k:=1) B.d_law_border dd () rfl λ_ c A b s H hid E a=>(aj (mB 2 dd.nd)
 (aj (cT Tn rfl (DIp.e (cg (af 1))) (au 3 dd.nd) (ao (cT Tn rfl (DIp.e (bu B.b_range (ag (aP aN cH B.b_len (aI (af 3) aR) (hv:=by kernel_rfl)) al))) (au 4 dd.nd) (ao (cT Tn rfl (DIp.e (bu B.b_range (ag (aP aN cH B.b_len (aI (af 3) aR) (hv:=by kernel_rfl)) al))) (au 5 dd.nd) (ao (du (DW.dt (kF (bG (jF a.units) oy (af 4) (af 5) (ba _)) (im (c6 (aX (z9 B) (a.mono ()) (ag (af 0) (ag (af 3) (ag (af 4) (ag (af 5) al))))))))) (aj (fj 6 dd.nd (cx mO BL B.b_list (aI (af 3) aR) (hv:=by kernel_rfl)))
 (aj (mX (DP.ef (cz (ag (aK aB aJ (af 3) (af 5) (λ_ _=>rfl)) (ag (aK aB aJ (af 3) (af 4) (λ_ _=>rfl)) al)))) (uR (n:=2) rfl (hX (fK 6 (af 4)) (hX (fK 6 (af 5)) vz))))
 (ao (rB 2 (eC a) (x8 (dC 6) B.b_tuple) (zl (Hr 2 (eC a) (x8 (dC 6) B.b_tuple) gG ⟨rfl,rfl,rfl,rfl⟩)))))) bL)))))))
 (ao (Ij 2 (aL (aP ou sV B.b_sorted (aI (cw (N':=CD) rfl (a8 (Se rfl)) (J4 2) (λ_ _ _ _=>(au 7 Pq)) (λ_ _ _ _=>(gE (c6 (II 2 (eC a) (af 7) (λ_ _=>rfl))))) (λ_ _ _ _=>(af 7))) aR) (hv:=by kernel_rfl)))))))⟩
def iD:FS:=jm.1
def eD:List D->Option D:=bP .n 7 iD
theorem mR:lR eD:=jm.2
theorem o0:bg xa2 xa2 (av iV):=by refine⟨rfl,rfl,rfl,?_,rfl,?_,?_⟩<;>decide+kernel
def i9(m:List D->Option D):Prop:=Qd 1 "_law_is_crowd" xa2 λK=>(spP K .s 2 m)
def hB: {t:FS // i9 (bP .s 2 t)}:=⟨_,λB=>by exact aO (k:=0) B.d_law_is_crowd o0 () rfl λ_ d A a s H hid E c=>(aj (du (DW.dt (qi (iu (c6 (wV "list" Cg (af 1) B.b_isinstance B.b_list))) (qa (iu (c6 (aP (ly rfl) vD B.b_all (aI (cw (N':=["_law_stands","_law_thing","_law_stand"]) rfl (a8 (Se rfl)) (DIp.b (cg (af 1))) (λ_ _ _ _=>(au 2 Ox)) (λ_ _ _ _=>bA) (λ_ _ _ _=>(dw (vP c.units) (uE θ) (af 2) (af 0) (by with_unfolding_all rfl)))) aR) (hv:=by kernel_rfl))))))) (ao (aL gG)) bL)
 (ao (aL (aP (ly rfl) vD B.b_all (aI (cw (N':=["_law_stands","_law_thing","_law_one","_law_other"]) rfl (kO (br (a8 (Se rfl)) (br (a8 (Se rfl)) eX))) (DIp.b (JK (af 1) (DP.toS (zK (af 1) (uZ aq) vW)) B.b_zip)) (λ_ _ _ _=>(db (n:=2) rfl (aW (au 2 Lx) (aW (au 3 Lx) di)))) (λ_ _ _ _=>bA) (λ_ _ _ _=>(dw (M7 (SK (VO _ 64) c.units)) LY (af 2) (af 3) (ba _)))) aR) (hv:=by kernel_rfl)))))⟩
def fX:FS:=hB.1
def eG:List D->Option D:=bP .s 2 fX
theorem jg:i9 eG:=hB.2
theorem wT:bg xa5 xa5 (av oo):=by refine⟨rfl,rfl,rfl,?_,rfl,?_,?_⟩<;>decide+kernel
def n4(m:List D->Option D):Prop:=Qd 1 "_law_oddly" xa5 λK=>(spP K .s 2 m)
def kz: {t:FS // n4 (bP .s 2 t)}:=⟨_,λB=>by exact aO (k:=0) B.d_law_oddly wT () rfl λ_ d A a s H hid E c=>(ao (aL (dw (gP c.units) kc (bY (aP aN cH B.b_len (aI (cw (N':=["_law_one","_law_other","_law_stand"]) rfl (a8 (Se rfl)) (DIp.b (cg (af 0))) (λ_ _ _ _=>(au 2 PP)) (λ_ _ _ _=>(gE (bG (vP c.units) (uE θ) (af 2) (af 1) (by with_unfolding_all rfl)))) (λ_ _ _ _=>(af 2))) aR) (hv:=by kernel_rfl)) aq) aq (ba _))))⟩
def jb:FS:=kz.1
def bQ:List D->Option D:=bP .s 2 jb
theorem oA:n4 bQ:=kz.2
theorem hV:bg ["_law_square_here","_law_stands","_law_thing","_law_home"] R0 (av gq):=by refine⟨rfl,rfl,rfl,?_,rfl,?_,?_⟩<;>decide+kernel
def gy(m:List D->Option D):Prop:=Qd 3 "_law_class_right" R0 λK=>(spP K .s 3 m)
def ew: {t:FS // gy (bP .s 4 t)}:=⟨_,λB=>by exact aO (k:=2) B.d_law_class_right hV () rfl λ_ d A c s H hid E a=>(aj (du (DW.dt (qi (iu (c6 (wV "tuple" yg (af 2) B.b_isinstance B.b_tuple))) (qa (bG (jF a.units) oy (aP aN cH B.b_len (aI (af 2) aR) (hv:=by kernel_rfl)) aq (ba _))))) (ao (aL gG)) bL)
 (aj (du (DW.dt (qi (iu (c6 (aX (jg B) (a.mono ()) (ag (af 1) (ag (aK aB aJ (af 2) aq (λ_ _=>rfl)) al))))) (qi (iu (c6 (aX (jg B) (a.mono ()) (ag (af 1) (ag (aK aB aJ (af 2) aq (λ_ _=>rfl)) al))))) (qa (bG (gP a.units) kc (aK aB aJ (af 2) aq (λ_ _=>rfl)) (cU al) (ba _)))))) (ao (aL gG)) bL)
 (aj (aZ 3 hV.nd (aX (mI B) (a.mono ()) (ag (af 0) (ag (aK aB aJ (aK aB aJ (af 2) aq (λ_ _=>rfl)) aq (λ_ _=>rfl)) al))))
 (aj (du (iu (c6 (aP (ly rfl) vD B.b_all (aI (cw (N':=Qs) rfl (a8 (Se rfl)) (DIp.b (cg (DP.toS (J3 (aK aB aJ (af 2) aq (λ_ _=>rfl)) (aK aB aJ (af 2) aq (λ_ _=>rfl)))))) (λ_ _ _ _=>(au 4 OF)) (λ_ _ _ _=>bA) (λ_ _ _ _=>(dw (gP a.units) kc (aX (mI B) (a.mono ()) (ag (af 0) (ag (af 4) al))) (af 3) (ba _)))) aR) (hv:=by kernel_rfl)))) (ao (aL gG)) bL)
 (ao (aL (dw (gP a.units) kc (aX (mR B) (a.mono ()) (ag (af 0) (ag (aK aB aJ (af 2) aq (λ_ _=>rfl)) al))) (cU al) (ba _))))))))⟩
def eE:FS:=ew.1
def b8:List D->Option D:=bP .s 4 eE
theorem lL:gy b8:=ew.2
theorem gn:bg ["_law_script","_law_bag_here","_law_kind","_law_n","_law_square_here","_law_stands","_law_told","_law_stand","_law_around","_law_k","_law_one"] ["_law_script"] (av k9):=by refine⟨rfl,rfl,rfl,?_,rfl,?_,?_⟩<;>decide+kernel
def EK:FS:=
 aF (dW 1 (am (nF 2 nO) (ae (ah 0) (ae (aD (.int 0)) (ai)))))
 (aF (f8 2 (a9 1 1 cn (cV (ae (aD (.int 8)) (ai)))))
 (aF (bp 3 (ar aY (bZ (ae (aD (.int 2)) (ae (aD (.int 3)) (ae (aD (.int 3)) (ae (aD (.int 4)) (ae (aD (.int 4)) (ae (aD (.int 4)) (ae (aD (.int 5)) (ae (aD (.int 5)) (ai)))))))))) (ah 2)))
 (aF (f8 4 (a9 1 1 ij (cV (ae (ah 3) (ai)))))
 (aF (fL (bO (ar wS (ah 2) (aD (.int 7)))) (f8 4 (a9 1 0 gC (cV (ai)))) (dc))
 (aF (bp 5 (am (nF 1 gZ) (ae (ah 3) (ai))))
 (aF (bp 6 (am (nF 1 dD) (ae (ah 4) (ai))))
 (aF (fL (sI (fN (c8 (rZ "tuple" (ah 6)))) (sI (bO (ar oZ (am cR (ae (ah 6) (ai))) (aD (.int 2)))) (fN (c8 (rZ "list" (ar aY (ah 6) (aD (.int 0)))))))) (bH (aD (.bl θ))) (dc))
 (aF (fL (fN (c8 (am vT (ae (bm 1 (d9 (ar aY (ah 6) (aD (.int 0)))) (gN 11) (dH) (am (nF 3 b8) (ae (ah 4) (ae (ah 5) (ae (ah 11) (ai)))))) (ai))))) (bH (aD (.bl θ))) (dc))
 (aF (eL (cV (d9 (ah 5))) (gN 7) (aF (bp 8 (am (nF 2 eD) (ae (ah 4) (ae (bZ (ae (ah 7) (ai))) (ai)))))
 (fL (d4 (bO (ar oZ (ah 8) (bZ (ai)))) (c8 (am vd (ae (bm 1 (d9 (ar aY (ah 6) (aD (.int 0)))) (gN 11) (dH) (am (nF 2 bQ) (ae (ah 8) (ae (ar aY (ah 11) (aD (.int 1))) (ai))))) (ai))))) (bH (aD (.bl θ))) (dc))))
 (aF (eL (cV (sA (ar aY (ah 6) (aD (.int 0))))) (gT 2 (gp (gN 9) (gp (gN 10) (kZ)))) (fL (bO (ar oZ (bm 2 (sA (ar aY (ah 6) (aD (.int 0)))) (gT 2 (gp (gN 11) (gp (gN 12) (kZ)))) (c8 (am (nF 2 bQ) (ae (ar aY (ah 12) (aD (.int 0))) (ae (ar aY (ah 10) (aD (.int 1))) (ai))))) (ah 11)) (bZ (ae (ah 9) (ai))))) (bH (aD (.bl θ))) (dc)))
 (bH (aD (.bl ζ)))))))))))))
def LB:List D->Option D:=bP .s 11 EK
theorem Nl(B:Bt K mg)(F:Fun K "law" "law" k9 f fd):ju P w K mg base wZ 10 f fd ["_law_script"] (spP K .s 1 LB):=by
 refine Cq (k:=9) F gn () λd A c s H hid E a=>?_
 exact(aj (fj 1 gn.nd (aX (D4 B) (a.mono ()) (ag (af 0) (ag aq al))))
  (aj (gH 2 gn.nd (ka 1 (eR B) (a.mono ()) (DA.gf (ag aq al))))
  (aj (aZ 3 gn.nd (aK aB aJ (cU (ag aq (ag aq (ag aq (ag aq (ag aq (ag aq (ag aq (ag aq al))))))))) (af 2) (λ_ _=>rfl)))
  (aj (gH 4 gn.nd (ka 1 (wo B) (a.mono ()) (DA.gf (ag (af 3) al))))
  (aj (du (bG (gP a.units) kc (af 2) aq (ba _)) (ao (gH 4 gn.nd (ka 1 (yq B) (a.mono ()) (DA.gf al)))) bL)
  (aj (aZ 5 gn.nd (aX (De B) (a.mono ()) (ag (af 3) al)))
  (aj (aZ 6 gn.nd (aX (sK B) (a.mono ()) (ag (af 4) al)))
  (aj (du (DW.dt (qi (iu (c6 (wV "tuple" yg (af 6) B.b_isinstance B.b_tuple))) (qi (bG (jF a.units) oy (aP aN cH B.b_len (aI (af 6) aR) (hv:=by kernel_rfl)) aq (ba _)) (qa (iu (c6 (wV "list" Cg (aK aB aJ (af 6) aq (λ_ _=>rfl)) B.b_isinstance B.b_list))))))) (ao (aL gG)) bL)
  (aj (du (iu (c6 (aP (ly rfl) vD B.b_all (aI (cw (N':=z0) rfl (a8 (Se rfl)) (DIp.b (cg (aK aB aJ (af 6) aq (λ_ _=>rfl)))) (λ_ _ _ _=>(au 11 K6)) (λ_ _ _ _=>bA) (λ_ _ _ _=>(aX (lL B) (a.mono ()) (ag (af 4) (ag (af 5) (ag (af 11) al)))))) aR) (hv:=by kernel_rfl)))) (ao (aL gG)) bL)
  (aj (cT Tn rfl (DIp.e (cg (af 5))) (au 7 gn.nd) (aj (aZ 8 gn.nd (DP.toS (aX (mR B) (a.mono ()) (ag (af 4) (ag (DP.toS (cU (ag (af 7) al))) al)))))
  (ao (du (DW.dt (kF (bG (jF a.units) oy (af 8) (cU al) (ba _)) (im (c6 (aP (pS rfl) Ab B.b_any (aI (cw (N':=z0) rfl (a8 (Se rfl)) (DIp.b (cg (aK aB aJ (af 6) aq (λ_ _=>rfl)))) (λ_ _ _ _=>(au 11 K6)) (λ_ _ _ _=>bA) (λ_ _ _ _=>(aX (oA B) (a.mono ()) (ag (af 8) (ag (aK aB aJ (af 11) aq (λ_ _=>rfl)) al))))) aR) (hv:=by kernel_rfl)))))) (ao (aL gG)) bL))))
  (aj (cT Tn rfl (DIp.e (tG (aK aB aJ (af 6) aq (λ_ _=>rfl)) B.b_enumerate)) (db (n:=2) rfl (aW (au 9 gn.nd) (aW (au 10 gn.nd) di))) (ao (du (bG (jF a.units) oy (cw (N':=A0) rfl (kO (br (a8 (Se rfl)) (br (a8 (Se rfl)) eX))) (DIp.b (tG (aK aB aJ (af 6) aq (λ_ _=>rfl)) B.b_enumerate)) (λ_ _ _ _=>(db (n:=2) rfl (aW (au 11 LD) (aW (au 12 LD) di)))) (λ_ _ _ _=>(gE (c6 (aX (oA B) (a.mono ()) (ag (aK aB aJ (af 12) aq (λ_ _=>rfl)) (ag (aK aB aJ (af 10) aq (λ_ _=>rfl)) al)))))) (λ_ _ _ _=>(af 11))) (cU (ag (af 9) al)) (ba _)) (ao (aL gG)) bL)))
  (ao (aL gG)))))))))))))
end
def ls:List Nat->(Nat->Int)->Int
 | [],_=>0
 |x::l,f=>f x+ls l f
theorem gJ(x:Nat)(l:List Nat)(f:Nat->Int):ls (x::l) f=f x+ls l f:=rfl
theorem cK {f g:Nat->Int}: ∀ {l:List Nat},(∀x∈l,f x=g x)->ls l f=ls l g
 | [],_=>rfl
 |x::l,h=>by unfold ls;rw[h x (SB ..),cK λy a=>h y (Sx _ a)]
theorem fU(f g:Nat->Int): ∀l,ls l (λx=>f x+g x)=ls l f+ls l g
 | []=>rfl
 |x::l=>by simp only[gJ];rw[fU f g l];lia
theorem dA(f g:Nat->Int): ∀l,ls l (λx=>f x-g x)=ls l f-ls l g
 | []=>rfl
 |x::l=>by simp only[gJ];rw[dA f g l];grind
theorem m7(k:Int)(f:Nat->Int): ∀l,ls l (λx=>k*f x)=k*ls l f
 | []=>by simp[ls]
 |x::l=>by simp only[gJ];simp[m7,Int.mul_add]
theorem gY(k:Int): ∀l,ls l (λ_=>k)=l.length*k
 | []=>by simp[ls]
 |x::l=>by simp only[gJ];rw[gY k l,SN,Int.natCast_succ,Int.add_mul];grind
theorem FF(g:Nat->Nat)(f:Nat->Int): ∀l,ls (l.map g) f=ls l (λx=>f (g x))
 | []=>rfl
 |x::l=>by simp[ls,FF]
theorem BO{l m:List Nat}(h:l.Perm m):ls l f=ls m f:=by
 induction h with
 |nil=>rfl
 |cons x _ a=>unfold ls;rw[a]
 |swap x y l=>show f y+(f x+ls l f)=f x+(f y+ls l f);grind
 |trans _ _ b c=>rw[b,c]
def bi(b:Bool):Int:=if b then 1 else 0
theorem nu(p:Nat->Bool)(f:Nat->Int): ∀l,ls (l.filter p) f=ls l (λx=>bi (p x)*f x)
 | []=>rfl
 |x::l=>by
  have:=nu p f l;grind[gJ,bi]
theorem pg {f:Nat->Int}(h: ∀x∈l,f x=0):ls l f=0:=by
 rw[cK (g:=λ_=>0) h,gY];rfl
theorem vH {l:List Nat}(b:l.Nodup){a:Nat}(k:Int)(h:a∈l):ls l (λx=>if x=a then k else 0)=k:=by
 induction l with
 |nil=>nofun
 |cons x l c=>
  simp only[gJ];rw[TW] at b
  by_cases e:x=a
  ·subst e;rw[if_pos rfl,pg (f:=λy=>if y=x then k else 0) λy d=>if_neg λe:y=x=>b.1 (e▸d)];simp
  ·rw[if_neg e,c b.2 ((SU.mp h).resolve_left (S9 e))];simp
theorem LX(d:a<n)(c:b<n)(l:a≠b){f g:Nat->Int}(h: ∀i,i<n->i≠a->i≠b->f i=g i):ls (R9 n) f-ls (R9 n) g=(f a-g a)+(f b-g b):=by
 rw[<-dA];rw[cK (g:=λx=>(if x=a then f a-g a else 0)+(if x=b then f b-g b else 0)),fU,vH Uf _ (SE.mpr d),vH Uf _ (SE.mpr c)];intro x k;rw[SE] at k
 by_cases e:x=a
 ·subst e;grind
 ·by_cases j:x=b
  ·subst j;nofun
  ·nofun
theorem Fz{o:List Nat}(a:o.length=n)(f:Nat->Int):ls (R9 n) (λc=>f (o.getD c 0))=ls o f:=by
 rw[<-FF (λc=>o.getD c 0)];congr 1;apply VQ
 ·nofun
 nofun
theorem EL{o:List Nat}(O:Ord n o)(f:Nat->Int):ls (R9 n) (λc=>f (o.getD c 0))=ls (R9 n) f:=by
 rw[Fz O.len];exact BO O.perm
theorem u8(d:s<n)(a:e<n)(b:x<n):bi (dM n s e x)=bi (χ (s<=x)) -bi (χ (e<=x))+bi (χ (e<s)):=by
 have h:0<n:=by lia
 have m: ∀y:Nat,y<n->((y:Int) -s) % (n:Int)=if s<=y then((y:Int) -s) else((y:Int) -s+n):=λy c=>by
  split
  ·exact Vz (by nofun) (by omega)
  ·rw[<-jah];exact Vz (by omega) ⋯
 unfold dM;rw[m x b,m e a];unfold bi;lia
theorem JZ(h:0<n)(d:a<n)(b:Nat)(f:Nat->Int):ls (gl n a b) f=ls (R9 n) (λc=>bi (dM n a b c)*f c):=by
 rw[BO (qH h d b)];simp[tX,nu]
theorem vR(h:0<n)(d:a<n)(b:Nat):ls (R9 n) (λc=>bi (dM n a b c))=((b:Int) -a) % n:=by
 have:=JZ h d b (λ_=>1);rw[gY] at this;simp only[Int.mul_one] at this;rw[<-this];unfold gl;rw[Sm,T8];exact(Ja _ h).2
theorem fJ {o:List Nat}(d:a<o.length)(c:b<o.length)(i:Nat):(bU o a b).getD i 0=if i=b then o.getD a 0 else if i=a then o.getD b 0 else o.getD i 0:=by
 grind[bU]
theorem wR {o:List Nat}(e:o.length=n)(d:a<n)(c:b<n)(j:a≠b)(g:Nat->Nat->Int):
 ls (R9 n) (λi=>g i (o.getD i 0)) -ls (R9 n) (λi=>g i ((bU o a b).getD i 0))=g a (o.getD a 0)+g b (o.getD b 0) -g a (o.getD b 0) -g b (o.getD a 0):=by
 rw[LX d c j (f:=λi=>g i (o.getD i 0)) (g:=λi=>g i ((bU o a b).getD i 0)) λi _ h k=>by rw[fJ (e▸d) (e▸c),if_neg k,if_neg h]];grind[fJ]
theorem pQ(x y:Bool):bi (x&&y)=bi x*bi y:=by cases x<;>cases y<;>rfl
theorem Fw(a b:Nat):bi (χ (a<b))=1-bi (χ (b<=a)):=by
 grind[bi]
def LA(n:Nat)(r o:List Nat):Int:=ls (R9 n) λi=>ls (R9 n) λc=>bi (χ (i<=c)&&χ (o.getD i 0<=r.getD c 0))
def K3(n:Nat)(r o:List Nat):Int:=ls (R9 n) λc=>ls (R9 n) λi=>bi (χ (c<i)&&χ (r.getD c 0<o.getD i 0))
def wP(n:Nat)(o:List Nat):Int:=ls (R9 n) λi=>ls (R9 n) λj=>bi (χ (i<j)&&χ (o.getD i 0<o.getD j 0))
def q9(n:Nat)(r o:List Nat)(a b:Nat):Int:=ls (R9 n) λc=>bi (dM n a b c)*bi (dM n (o.getD a 0) (o.getD b 0) (r.getD c 0))
def BG(n:Nat)(o:List Nat)(a b:Nat):Int:=ls (R9 n) λc=>bi (dM n a b c)*bi (χ (c≠a)&&dM n (o.getD a 0) (o.getD b 0) (o.getD c 0))
def DF(n:Nat)(o:List Nat)(a b:Nat):Int:=bi (χ (o.getD b 0<o.getD a 0))*(((b:Int) -a) % n)+bi (χ (b<a))*(((o.getD b 0:Int) -o.getD a 0) % n) -n*(bi (χ (b<a))*bi (χ (o.getD b 0<o.getD a 0)))
section
variable {n a b:Nat}{r o:List Nat}(O:Ord n o)(R:Ord n r)(ha:a<n)(hb:b<n)(ne:a≠b)
include O R ha hb ne
theorem xE:ls (R9 n) (λc=>(bi (χ (a<=c)) -bi (χ (b<=c)))*(bi (χ (o.getD a 0<=r.getD c 0)) -bi (χ (o.getD b 0<=r.getD c 0))))=q9 n r o a b-DF n o a b:=by
 have h:0<n:=by lia
 rw[cK (g:=λc=>((bi (dM n a b c)*bi (dM n (o.getD a 0) (o.getD b 0) (r.getD c 0)) -bi (χ (o.getD b 0<o.getD a 0))*bi (dM n a b c)) -bi (χ (b<a))*bi (dM n (o.getD a 0) (o.getD b 0) (r.getD c 0)))+bi (χ (b<a))*bi (χ (o.getD b 0<o.getD a 0)))]
 ·rw[fU,dA,dA,m7,m7,vR h ha,EL R (λv=>bi (dM n (o.getD a 0) (o.getD b 0) v)),vR h (O.get ha),gY,T8];grind[q9,DF]
 ·intro c d;rw[SE] at d;rw[u8 ha hb d,u8 (O.get ha) (O.get hb) (R.get d)];grind
theorem Mp:LA n r o-LA n r (bU o a b)=q9 n r o a b-DF n o a b:=by
 unfold LA;rw[wR O.len ha hb ne (λi u=>ls (R9 n) λc=>bi (χ (i<=c)&&χ (u<=r.getD c 0)))];rw[<-xE O R ha hb ne,<-fU,<-dA,<-dA];grind[pQ]
theorem Nn:K3 n r o-K3 n r (bU o a b)=q9 n r o a b-DF n o a b:=by
 unfold K3;rw[<-xE O R ha hb ne,<-dA];refine cK λc _=>?_
 rw[wR O.len ha hb ne (λi u=>bi (χ (c<i)&&χ (r.getD c 0<u)))];grind[pQ,Fw]
end
theorem cD {x y:Nat}(h:x≠y):bi (χ (y<x))=1-bi (χ (x<y))/\bi (χ (x<=y))=bi (χ (x<y)):=by
 rcases jeS x y with q|q
 ·rw[zm q,zq (Nat.lt_asymm q),zm (UV q)];exact⟨rfl,rfl⟩
 ·have w:=jai q h.symm;rw[zq (V1.mpr q),zm w,zq (Nat.not_le.mpr w)];exact⟨rfl,rfl⟩
theorem fm(x:Nat):bi (χ (x<x))=0/\bi (χ (x<=x))=1:=by
 rw[zq (Tv x),zm (Sn x)];exact⟨rfl,rfl⟩
theorem Ps(X Y:Int):(0- (1-X))*(0-Y)+(0-X)*(Y-0)=2*((1- (1-X)+(1-X))*(0*(1-Y+Y))) -2*Y*(1- (1-X)+(1-X)) -2*(1-X)*(1-Y+Y)+2*((1-X)*Y)+(Y+2*(1-X)+0):=by grind
theorem Pg(X Y:Int):(X-0)*(Y-0)+(1-X-0)*(0-Y)=2*((X-1+(1-X))*(1*(Y-1+(1-Y)))) -2*(1-Y)*(X-1+(1-X)) -2*(1-X)*(Y-1+(1-Y))+2*((1-X)*(1-Y))+(0+(1-2*(1-X) - (1-Y))):=by grind
theorem N4(p q u v w t:Int):(p-q)*(u-v)+(1-p- (1-q))*(1-u- (1-v))=2*((p-q+w)*(1*(u-v+t))) -2*t*(p-q+w) -2*w*(u-v+t)+2*(w*t)+(0+0):=by grind
section
variable {n a b:Nat}{o:List Nat}(O:Ord n o)(ha:a<n)(hb:b<n)(ne:a≠b)
include O ha hb ne
theorem Ml:wP n o-wP n (bU o a b)=1+2*BG n o a b-2*DF n o a b:=by
 have h:0<n:=by lia
 have l:wP n o- (ls (R9 n) λi=>ls (R9 n) λj=>bi (χ (i<j)&&χ ((bU o a b).getD i 0<o.getD j 0)))=ls (R9 n) λj=>(bi (χ (a<j)) -bi (χ (b<j)))*(bi (χ (o.getD a 0<o.getD j 0)) -bi (χ (o.getD b 0<o.getD j 0))):=by
  unfold wP;rw[wR O.len ha hb ne (λi u=>ls (R9 n) λj=>bi (χ (i<j)&&χ (u<o.getD j 0))),<-fU,<-dA,<-dA];grind[pQ]
 have m:(ls (R9 n) λi=>ls (R9 n) λj=>bi (χ (i<j)&&χ ((bU o a b).getD i 0<o.getD j 0))) -wP n (bU o a b)=ls (R9 n) λi=>(bi (χ (i<a)) -bi (χ (i<b)))*(bi (χ ((bU o a b).getD i 0<o.getD a 0)) -bi (χ ((bU o a b).getD i 0<o.getD b 0))):=by
  unfold wP;rw[<-dA];refine cK λi _=>?_
  rw[wR O.len ha hb ne (λj u=>bi (χ (i<j)&&χ ((bU o a b).getD i 0<u)))];grind[pQ]
 have k:wP n o-wP n (bU o a b)=ls (R9 n) λj=>(((2*(bi (dM n a b j)*bi (χ (j≠a)&&dM n (o.getD a 0) (o.getD b 0) (o.getD j 0))) -2*bi (χ (o.getD b 0<o.getD a 0))*bi (dM n a b j)) -2*bi (χ (b<a))*bi (dM n (o.getD a 0) (o.getD b 0) (o.getD j 0)))+2*(bi (χ (b<a))*bi (χ (o.getD b 0<o.getD a 0))))+((if j=a then bi (χ (o.getD b 0<o.getD a 0))+2*bi (χ (b<a)) else 0)+(if j=b then 1-2*bi (χ (b<a)) -bi (χ (o.getD b 0<o.getD a 0)) else 0)):=by
  rw[show wP n o-wP n (bU o a b)=_+_ from(by lia:_=(ls (R9 n) λj=>(bi (χ (a<j)) -bi (χ (b<j)))*(bi (χ (o.getD a 0<o.getD j 0)) -bi (χ (o.getD b 0<o.getD j 0))))+ls (R9 n) λi=>(bi (χ (i<a)) -bi (χ (i<b)))*(bi (χ ((bU o a b).getD i 0<o.getD a 0)) -bi (χ ((bU o a b).getD i 0<o.getD b 0)))),<-fU];refine cK λj f=>?_
  rw[SE] at f;rw[u8 ha hb f,pQ,u8 (O.get ha) (O.get hb) (O.get f),fJ (O.len▸ha) (O.len▸hb)];have c:o.getD a 0≠o.getD b 0:=λe=>ne (O.inj ha hb e)
  by_cases e:j=a
  ·subst e;rw[if_neg ne,if_pos rfl,if_pos rfl,if_neg ne,(fm j).1,(fm j).2,(fm (o.getD j 0)).1,(fm (o.getD b 0)).1,(cD ne.symm).2,(cD ne).1,zq (λq=>q rfl: ¬j≠j),show bi θ=0 from rfl,(fm (o.getD j 0)).2,(cD c.symm).2];exact Ps _ _
  ·by_cases d:j=b
   ·subst d;rw[if_pos rfl,if_neg e,if_pos rfl,(fm j).1,(fm j).2,(fm (o.getD j 0)).1,(fm (o.getD j 0)).2,(fm (o.getD a 0)).1,(cD ne).1,(cD ne).2,(cD c).1,(cD c).2,zm e,show bi ζ=1 from rfl];exact Pg _ _
   ·rw[if_neg d,if_neg e,if_neg e,if_neg d];have g:o.getD j 0≠o.getD a 0:=λx=>e (O.inj f ha x)
    have ob:o.getD j 0≠o.getD b 0:=λx=>d (O.inj f hb x)
    rw[(cD (S9 e)).1,(cD (S9 d)).1,(cD (S9 e)).2,(cD (S9 d)).2,(cD g.symm).1,(cD ob.symm).1,(cD g.symm).2,(cD ob.symm).2,zm e,show bi ζ=1 from rfl];exact N4 _ _ _ _ _ _
 rw[k];rw[fU,fU,fU,dA,dA,m7,m7,m7,vH Uf _ (SE.mpr ha),vH Uf _ (SE.mpr hb),vR h ha,EL O (λv=>bi (dM n (o.getD a 0) (o.getD b 0) v)),vR h (O.get ha),gY,T8];grind[BG,DF]
end
theorem Fs {xs ys:List Nat}(a:xs.length=ys.length)(h: ∀i,i<xs.length->xs.getD i 0=ys.getD i 0):xs=ys:=by
 grind[VQ]
theorem E6{r x o:List Nat}(O:Ord n o)(R:Ord n r)(X:Ord n x)(g:a<n)(l:b<n)(k:a≠b):bR r x o a b=ζ↔(∀c,c<n->dM n a b c=ζ->c≠a-> ¬dM n (o.getD a 0) (o.getD b 0) (o.getD c 0)=ζ)/\(∀c,c<n->dM n a b c=ζ-> ¬dM n (o.getD a 0) (o.getD b 0) (r.getD c 0)=ζ)/\(∀c,c<n->dM n a b c=ζ-> ¬dM n (o.getD a 0) (o.getD b 0) (x.getD c 0)=ζ):=by
 unfold bR;rw[TL,qm O g l k];refine and_congr ⟨λh c d i f j=>h c d ⟨i,f,j,λe=>f (O.inj d g e)⟩,λh c d ⟨i,f,j,_⟩=>h c d i f j⟩ ?_
 unfold kY;rw[O.len,Uw,W7];simp only[n5,XQ,zk,not_or,not_and];constructor
 ·intro h;exact⟨λc d i j=>(h c ⟨d,i⟩).1 (R.get d) j,λc d i j=>(h c ⟨d,i⟩).2 (X.get d) j⟩
 nofun
def sp(n:Nat)(P:Nat->Nat->Bool):List (Nat×Nat):=(R9 n).flatMap λa=>((R9 n).filter λb=>decide (a≠b)&&P a b).map λb=>(a,b)
theorem fq{p:Nat×Nat}:p∈sp n P↔p.1<n/\p.2<n/\p.1≠p.2/\P p.1 p.2=true:=by
 grind[sp]
theorem O8(n:Nat)(P:Nat->Nat->Bool):(sp n P).Pairwise λp q=>p.1<q.1\/(p.1=q.1/\p.2<q.2):=by
 refine Xh.mpr ⟨λa _=>Uh.mpr ((Ul.filter _).imp λh=>.inr ⟨rfl,h⟩),Ul.imp λh x c y b=>.inl ?_⟩;obtain⟨_,_,rfl⟩:=SM.mp c;obtain⟨_,_,rfl⟩:=SM.mp b;exact h
theorem B7(n:Nat)(P:Nat->Nat->Bool):(sp n P).Nodup:=(O8 n P).imp λh e=>by lia
theorem Lz {α β:Type}{l:List α}{f:α->List β}(h:l.Nodup)(b: ∀p,(f p).Nodup):(l.flatMap λp=>(f p).map λq=>(p,q)).Nodup:=by
 refine Xh.mpr ⟨λp _=>Uh.mpr ((b p).imp λh e=>h (congrArg (·.2) e)),h.imp λh x c y a e=>?_⟩;obtain⟨_,_,rfl⟩:=SM.mp c;obtain⟨_,_,rfl⟩:=SM.mp a;exact h (congrArg (·.1) e)
theorem Mx(n:Nat)(P:Nat->Nat->Bool):(sp n P).length<=n*n:=by
 have c: ∀(l:List Nat) (f:Nat->List (Nat×Nat)),(∀a,(f a).length<=n)->(l.flatMap f).length<=l.length*n:=by
  intro l f e
  induction l with
  |nil=>simp
  |cons a l d=>rw[TU,SG,SN,ZL,ZM];grind
 have:=c (R9 n) (λa=>((R9 n).filter λb=>decide (a≠b)&&P a b).map λb=>(a,b)) λa=>by grind
 rwa [T8] at this
theorem IS{o:List Nat}(b:o.length=n)(P:Nat->Nat->Bool):F5 P o=(sp n P).map λp=>za o p.1 p.2:=by
 unfold F5 sp;rw[b,Uo];congr 1;funext a;simp
def Eh(n a b:Nat):Nat:=Nat.div (cond (Nat.ble a b) (Yw (VB (VB 2 n) b) (VB (VB 2 n) a)) (Yw (ZR (Yw (VB (VB 2 n) n) (VB (VB 2 n) a)) (VB (VB 2 n) b)) 1)) (Yw (VB 2 n) 1)
def Hu(n a b:Nat):Nat:=cond (Nat.ble a b) (Yw (VB 2 b) (VB 2 a)) (Yw (ZR (Yw (VB 2 n) (VB 2 a)) (VB 2 b)) 1)
def oV(n:Nat)(s:List Nat)(a b:Nat):Nat:=ZS (Eh n a b) (Hu n (s.getD a 0) (s.getD b 0))
def Ky(m i:Nat):Bool:=WP (Nat.land (Nat.shiftRight m i) 1) 1
def n6(n a m:Nat):Nat->List Nat->Bool
 |_,[]=>ζ
 |x,y::r=>and (or (WP x a) (not (Ky m (ZR (ZS n x) y)))) (n6 n a m (jcE x) r)
def QT {α:Type}(n:Nat)(f:Nat->α):α:=Nat.rec (f 0) (λk _=>f (jcE k)) n
def F2 {α:Type}:List Nat->(List Nat->α)->α
 | [],f=>f []
 |a::r,f=>QT a λb=>F2 r λc=>f (b::c)
def Jp(n:Nat)(s:List Nat):List ((Nat×Nat)×Nat):=(R9 n).flatMap λa=>((R9 n).map λb=>((a,b),oV n s a b)).filter λe=>and (not (WP a e.1.2)) (n6 n a e.2 0 s)
structure WK where
 p:Nat×Nat
 q:Nat×Nat
 k:Nat
 e:List Nat
def P2:List Nat->List Nat->Bool
 | [],[]=>ζ
 |a::r,b::u=>and (WP a b) (P2 r u)
 |_,_=>θ
def Ip(A B:Nat):Nat:=ZR (ZS (Nat.land A B) (VB 2 25)) (Nat.xor A B)
def HM(n:Nat)(s:List Nat):List WK:=(Jp n s).flatMap λA=>F2 (bU s A.1.1 A.1.2) λs'=>(Jp n s').map λB=>QT (Ip A.2 B.2) λk=>⟨A.1,B.1,k,bU s' B.1.1 B.1.2⟩
def CH(p q:Nat×Nat):Bool:=or (and (WP p.1 q.1) (WP p.2 q.2)) (and (WP p.1 q.2) (WP p.2 q.1))
def Ao:List WK->Nat->List Nat->Nat
 | [],_,_=>0
 |v::L,k,e=>cond (WP v.k k) (cond (P2 v.e e) (jcE (Ao L k e)) (Ao L k e)) (Ao L k e)
def GR(L:List WK):Bool:=L.all λw=>or (CH w.p w.q) (WP (Ao L w.k w.e) 2)
def jW(n:Nat):Nat->List Nat->Bool
 |0,s=>F2 s λs'=>GR (HM n s')
 |k+1,s=>(R9 n).all λh=>or (χ (h∈s)) (jW n k (s++[h]))
theorem Q1:jW 3 3 []=true:=by rfl
theorem QL:jW 4 4 []=true:=by decide+kernel
theorem Nw:jW 5 4 [0]=true:=by decide+kernel
theorem MM:jW 5 4 [1]=true:=by decide+kernel
theorem Na:jW 5 4 [2]=true:=by decide+kernel
theorem Nz:jW 5 4 [3]=true:=by decide+kernel
theorem Ng:jW 5 4 [4]=true:=by decide+kernel
theorem DJ(h: ∀x,x<n->x∉s->jW n k (s++[x])=ζ):jW n (k+1) s=true:=by
 unfold jW;refine TQ.mpr λx a=>?_
 by_cases e:x∈s
 ·nofun
 nofun
theorem Rf:jW 5 5 []=true:=DJ λx a _=>by
 have e:x=0\/x=1\/x=2\/x=3\/x=4:=by lia
 rcases e with rfl|rfl|rfl|rfl|rfl
 ·exact Nw
 ·exact MM
 ·exact Na
 ·exact Nz
 ·exact Ng
theorem Mg(b:3<=n)(a:n<=5):jW n n []=true:=by
 have:n=3\/n=4\/n=5:=by grind
 rcases this with rfl|rfl|rfl
 ·exact Q1
 ·exact QL
 ·exact Rf
def P1(n a b x:Nat):Bool:=Nat.blt (Nat.mod (Yw (ZR x n) a) n) (Nat.mod (Yw (ZR b n) a) n)
def RL(u v:Bool):Bool:=cond u v (not v)
def G1(n:Nat):Bool:=(R9 n).all λa=>(R9 n).all λb=>(R9 n).all λp=>(R9 n).all λq=>and (Nat.blt (ZS (Eh n a b) (Hu n p q)) (VB 2 (ZS n n))) ((R9 n).all λx=>(R9 n).all λy=>RL (Ky (ZS (Eh n a b) (Hu n p q)) (ZR (ZS n x) y)) (and (P1 n a b x) (P1 n p q y)))
theorem QI:G1 3=true:=by rfl
theorem Qm:G1 4=true:=by rfl
theorem QV:G1 5=true:=by decide+kernel
theorem L5(b:3<=n)(a:n<=5):G1 n=true:=by
 have:n=3\/n=4\/n=5:=by omega
 grind[QI,Qm,QV]
theorem G8(h:0<n)(d:a<n)(b x:Nat):P1 n a b x=dM n a b x:=by
 have c: ∀z:Nat,((z:Int) -a) % n=(((z+n-a) % n:Nat):Int):=λz=>by
  rw[Wx,show((z+n-a:Nat):Int)=((z:Int) -a)+n by grind,jah]
 unfold P1 dM;rw[c,c,U7,zk,Int.ofNat_lt];exact iff_of_eq Nat.blt_eq
theorem Bd(m i:Nat):Ky m i=m.testBit i:=by
 unfold Ky;rw[Nat.testBit_eq_decide_div_mod_eq,U7,zk,Nat.beq_eq,<-Nat.shiftRight_eq_div_pow,<-Nat.and_one_is_mod];rfl
theorem LW(h:RL u v=ζ):u=v:=by cases u<;>cases v<;>first|rfl|exact absurd h ()
theorem M5(k:3<=n)(i:n<=5)(c:a<n)(j:b<n)(d:p<n)(m:q<n):Eh n a b*Hu n p q<2^(n*n)/\ ∀x y,x<n->y<n->(Eh n a b*Hu n p q).testBit (n*x+y)=(dM n a b x&&dM n p q y):=by
 have h:=L5 k i;unfold G1 at h;have R: ∀ {z:Nat},z<n->z∈R9 n:=λhz=>SE.mpr hz
 have f:=TQ.mp (TQ.mp (TQ.mp (TQ.mp h a (R c)) b (R j)) p (R d)) q (R m);obtain⟨o,l⟩:=(U1).mp f;refine⟨Nat.blt_eq.mp o,λx y r g=>?_⟩;have e:=LW (TQ.mp (TQ.mp l x (R r)) y (R g));rw[Bd,G8 (by grind) c,G8 (by omega) d] at e;exact e
theorem Cc {α β:Type}{f g:α->List β}{l:List α}(h: ∀a∈l,f a=g a):l.flatMap f=l.flatMap g:=by grind[TC]
theorem EC {α:Type}(n:Nat)(f:Nat->α):QT n f=f n:=by cases n<;>rfl
theorem v8 {α:Type}: ∀(l:List Nat) (f:List Nat->α),F2 l f=f l
 | [],_=>rfl
 |a::r,f=>by unfold F2;rw[EC,v8 r]
theorem EQ: ∀l m:List Nat,P2 l m=χ (l=m)
 | [],[]=>rfl
 | [],_::_=>rfl
 |_::_,[]=>rfl
 |a::r,b::u=>by
  unfold P2;rw[EQ r u,U7];simp
theorem uw {n a m:Nat}: ∀(l:List Nat) (k:Nat),n6 n a m k l=ζ↔ ∀i,i<l.length->k+i≠a->m.testBit (n*(k+i)+l.getD i 0)=θ
 | [],k=>by simp[n6]
 |y::r,k=>by
  unfold n6;rw[U1,uw r,Bd,ZW,Uw,Nat.beq_eq];constructor
  ·rintro⟨d,f⟩ i c b;cases i with
   |zero=>exact d.resolve_left b
   |succ i=>
    have t:=f i (V3 c);rw[YL] at t;exact t b
  ·intro h;refine⟨?_,λi c b=>?_⟩
   ·by_cases e:k=a
    ·exact .inl e
    ·exact .inr (h 0 (Nat.zero_lt_succ _) e)
   ·rw[YL] at b⊢;exact h (i+1) (Nat.succ_lt_succ c) b
theorem xl{o:List Nat}(f:3<=n)(e:n<=5)(O:Ord n o)(d:a<n)(c:b<n):oV n o a b<2^(n*n)/\ ∀x y,x<n->y<n->(oV n o a b).testBit (n*x+y)=(dM n a b x&&dM n (o.getD a 0) (o.getD b 0) y):=M5 f e d c (O.get d) (O.get c)
theorem NV(l:3<=n)(k:n<=5)(O:Ord n o)(f:a<n)(j:b<n)(m:a≠b):n6 n a (oV n o a b) 0 o=gW o a b:=by
 rw[U7,uw,qm O f j m,O.len];have B:=(xl l k O f j).2;constructor
 ·rintro h x c ⟨g,i2,i,p⟩;have:=h x c (by nofun);rw[XY,B x _ c (O.get c),g,i] at this;lia
 ·intro h x c d;rw[XY] at d⊢;rw[B x _ c (O.get c)];cases g:dM n a b x with
  |false=>rfl
  |true=>
   cases i:dM n (o.getD a 0) (o.getD b 0) (o.getD x 0) with
   |false=>rfl
   |true=>exact absurd ⟨g,d,i,λe=>d (O.inj c f e)⟩ (h x c)
theorem BM(g:3<=n)(f:n<=5)(O:Ord n o):Jp n o=(sp n (gW o)).map λp=>(p,oV n o p.1 p.2):=by
 unfold Jp sp;rw[Uo];refine Cc λa d=>?_
 have d:=SE.mp d;rw[jbX,SJ];have:(R9 n).filter ((λe:(Nat×Nat)×Nat=>and (not (WP a e.1.2)) (n6 n a e.2 0 o))∘λb=>((a,b),oV n o a b))=(R9 n).filter λb=>decide (a≠b)&&gW o a b:=by
  refine jaZ λb c=>?_
  have c:=SE.mp c;show and (not (WP a b)) (n6 n a (oV n o a b) 0 o)=_
  by_cases e:a=b
  ·subst e;simp
  grind[Xk,NV]
 nofun
abbrev Wy:=(Nat×Nat)×(Nat×Nat)
def wy(n:Nat)(o:List Nat):List Wy:=(sp n (gW o)).flatMap λp=>(sp n (gW (bU o p.1 p.2))).map λq=>(p,q)
abbrev wc(o:List Nat)(w:Wy):List Nat:=bU (bU o w.1.1 w.1.2) w.2.1 w.2.2
def zb(n:Nat)(o:List Nat)(w:Wy):Nat:=Ip (oV n o w.1.1 w.1.2) (oV n (bU o w.1.1 w.1.2) w.2.1 w.2.2)
theorem ot{w:Wy}:w∈wy n o↔(w.1.1<n/\w.1.2<n/\w.1.1≠w.1.2/\gW o w.1.1 w.1.2=ζ)/\(w.2.1<n/\w.2.2<n/\w.2.1≠w.2.2/\gW (bU o w.1.1 w.1.2) w.2.1 w.2.2=ζ):=by
 unfold wy;rw[Vg];constructor
 ·rintro⟨p,c,h⟩;obtain⟨q,b,rfl⟩:=SM.mp h;exact⟨fq.mp c,fq.mp b⟩
 ·rintro⟨a,d⟩;exact⟨w.1,fq.mpr a,SM.mpr ⟨w.2,fq.mpr d,rfl⟩⟩
theorem PV(n:Nat)(o:List Nat):(wy n o).Nodup:=Lz (B7 _ _) λ_=>B7 _ _
theorem Ord.exx(O:Ord n o)(d:a<n)(c:b<n):Ord n (bU o a b):=⟨(swap_perm o a b (by rw[O.len];exact d) (by rw[O.len];exact c)).trans O.perm⟩
theorem Jt(b:3<=n)(a:n<=5)(O:Ord n o):HM n o=(wy n o).map λw=>⟨w.1,w.2,zb n o w,wc o w⟩:=by
 unfold HM wy;rw[BM b a O,jbt,Uo];refine Cc λp d=>?_
 obtain⟨c,e,_⟩:=fq.mp d;rw[v8,BM b a (O.exx c e),SJ,SJ];refine TC λq _=>?_
 rw[XW,XW,EC];rfl
theorem Bk(k:Nat)(e:List Nat): ∀L:List WK,Ao L k e=(L.filter λv=>decide (v.k=k/\v.e=e)).length
 | []=>rfl
 |v::L=>by
  unfold Ao;rw[Bk k e L,jbb,EQ]
  by_cases a:v.k=k
  ·by_cases b:v.e=e
   ·nofun
   lia
  ·grind[Xk]
theorem MX {α:Type}{l:List α}(e:l.Nodup)(h:l.length=2){w:α}(hw:w∈l): ∃c,c∈l/\c≠w/\ ∀v∈l,v=w\/v=c:=by
 match l,h with
 | [a,b],_=>
   have d:a≠b:=by nofun
   rcases SU.mp hw with rfl|h
   ·exact⟨b,by simp,d.symm,λv hv=>by nofun⟩
   nofun
def iU(n:Nat)(o:List Nat)(p:Nat×Nat)(x y:Nat):Bool:=dM n p.1 p.2 x&&dM n (o.getD p.1 0) (o.getD p.2 0) y
def Mw(n:Nat)(o:List Nat)(w:Wy)(x y:Nat):Nat:=(iU n o w.1 x y).toNat+(iU n (bU o w.1.1 w.1.2) w.2 x y).toNat
structure Inn(n:Nat)(w:Wy):Prop where
 a:w.1.1<n
 b:w.1.2<n
 c:w.2.1<n
 d:w.2.2<n
def NM(n:Nat)(o:List Nat)(v w:Wy):Prop:=(∀x y,x<n->y<n->Mw n o v x y=Mw n o w x y)/\wc o v=wc o w
theorem GL {A B C D:Nat}(a:A<2^25)(d:B<2^25)(b:C<2^25)(c:D<2^25):Ip A B=Ip C D↔A&&& B=C&&& D/\A^^^B=C^^^D:=by
 have e:A^^^B<2^25:=jaj a d;have f:C^^^D<2^25:=jaj b c;show(A&&& B)*2^25+(A^^^B)=(C&&& D)*2^25+(C^^^D)↔_;lia
theorem Kg(j:3<=n)(g:n<=5)(O:Ord n o)(V:Inn n v)(W:Inn n w):zb n o v=zb n o w↔ ∀x y,x<n->y<n->Mw n o v x y=Mw n o w x y:=by
 obtain⟨I,q⟩:=xl j g O V.a V.b;obtain⟨M,k⟩:=xl j g (O.exx V.a V.b) V.c V.d;obtain⟨K,p⟩:=xl j g O W.a W.b;obtain⟨L,l⟩:=xl j g (O.exx W.a W.b) W.c W.d;have G:n*n<=25:=Wp g g;have J:(2:Nat)^(n*n)<=2^25:=Uj () G;unfold zb;rw[GL ⋯ (by grind) ⋯ (by grind)];constructor
 ·rintro⟨C,E⟩ x y f e;have B:(oV n o v.1.1 v.1.2&&& oV n (bU o v.1.1 v.1.2) v.2.1 v.2.2).testBit (n*x+y)=(oV n o w.1.1 w.1.2&&& oV n (bU o w.1.1 w.1.2) w.2.1 w.2.2).testBit (n*x+y):=by rw[C]
  have A:(oV n o v.1.1 v.1.2^^^oV n (bU o v.1.1 v.1.2) v.2.1 v.2.2).testBit (n*x+y)=(oV n o w.1.1 w.1.2^^^oV n (bU o w.1.1 w.1.2) w.2.1 w.2.2).testBit (n*x+y):=by rw[E]
  rw[jbY,jbY,q x y f e,k x y f e,p x y f e,l x y f e] at B;rw[jbZ,jbZ,q x y f e,k x y f e,p x y f e,l x y f e] at A;show(iU n o v.1 x y).toNat+(iU n (bU o v.1.1 v.1.2) v.2 x y).toNat=(iU n o w.1 x y).toNat+(iU n (bU o w.1.1 w.1.2) w.2 x y).toNat;change (iU n o v.1 x y&&iU n (bU o v.1.1 v.1.2) v.2 x y)=(iU n o w.1 x y&&iU n (bU o w.1.1 w.1.2) w.2 x y) at B;change (iU n o v.1 x y^^iU n (bU o v.1.1 v.1.2) v.2 x y)=(iU n o w.1 x y^^iU n (bU o w.1.1 w.1.2) w.2 x y) at A;lia
 ·intro h;have D: ∀i,((oV n o v.1.1 v.1.2).testBit i&&(oV n (bU o v.1.1 v.1.2) v.2.1 v.2.2).testBit i)=((oV n o w.1.1 w.1.2).testBit i&&(oV n (bU o w.1.1 w.1.2) w.2.1 w.2.2).testBit i)/\((oV n o v.1.1 v.1.2).testBit i^^(oV n (bU o v.1.1 v.1.2) v.2.1 v.2.2).testBit i)=((oV n o w.1.1 w.1.2).testBit i^^(oV n (bU o w.1.1 w.1.2) w.2.1 w.2.2).testBit i):=λi=>by
   by_cases H:i<n*n
   ·have f:i / n<n:=Nat.div_lt_of_lt_mul H;have e:i % n<n:=UR _ (by grind);have m:=h (i / n) (i % n) f e;have t:=q _ _ f e;have r:=k _ _ f e;have s:=p _ _ f e;have u:=l _ _ f e;rw[Nat.div_add_mod] at t r s u;rw[t,r,s,u];change (iU n o v.1 (i / n) (i % n)).toNat+(iU n (bU o v.1.1 v.1.2) v.2 (i / n) (i % n)).toNat=(iU n o w.1 (i / n) (i % n)).toNat+(iU n (bU o w.1.1 w.1.2) w.2 (i / n) (i % n)).toNat at m;show(iU n o v.1 (i / n) (i % n)&&iU n (bU o v.1.1 v.1.2) v.2 (i / n) (i % n))=(iU n o w.1 (i / n) (i % n)&&iU n (bU o w.1.1 w.1.2) w.2 (i / n) (i % n))/\(iU n o v.1 (i / n) (i % n)^^iU n (bU o v.1.1 v.1.2) v.2 (i / n) (i % n))=(iU n o w.1 (i / n) (i % n)^^iU n (bU o w.1.1 w.1.2) w.2 (i / n) (i % n));revert m;cases iU n o v.1 (i / n) (i % n)<;>cases iU n (bU o v.1.1 v.1.2) v.2 (i / n) (i % n)<;>cases iU n o w.1 (i / n) (i % n)<;>cases iU n (bU o w.1.1 w.1.2) w.2 (i / n) (i % n)<;>decide
   ·have F: ∀ {z:Nat},z<2^(n*n)->z.testBit i=false:=λhz=>Nat.testBit_lt_two_pow (SH hz (Uj () (by nofun)))
    nofun
  exact⟨ZQ λi=>by nofun,ZQ λi=>by nofun⟩
theorem Bc: ∀(k:Nat) (s u:List Nat),jW n k s=ζ->u.length=k->(s++u).Nodup->(∀v∈s++u,v<n)->GR (HM n (s++u))=ζ
 |0,s,u,h,a,_,_=>by
  grind[jW,v8]
 |k+1,s,u,h,a,b,lt=>by
  match u,a with
  |x::u,a=>
   have e:s++x::u=(s++[x])++u:=by simp
   unfold jW at h;have c:=TQ.mp h x (SE.mpr (lt x (by simp)));have d:x∉s:=λm=>(Th.mp b).2.2 x m x (by simp) rfl
   rw[zq d] at c;rw[e] at b lt⊢;exact Bc k (s++[x]) u c (by simpa using a) b lt
theorem KD(h:GR L=ζ){w:WK}(hw:w∈L)(b:CH w.p w.q=θ):Ao L w.k w.e=2:=by
 unfold GR at h;have a:=TQ.mp h w hw;nofun
theorem DL(f:3<=n)(d:n<=5)(O:Ord n o){w:Wy}(hw:w∈wy n o)(l:CH w.1 w.2=θ): ∃a,a∈wy n o/\a≠w/\NM n o a w/\ ∀v∈wy n o,NM n o v w->v=w\/v=a:=by
 have c:GR (HM n o)=true:=Bc n [] o (Mg f d) O.len O.nd (λv hv=>O.lt hv);rw[Jt f d O] at c;have i:=KD c (w:=⟨w.1,w.2,zb n o w,wc o w⟩) (SM.mpr ⟨w,hw,rfl⟩) l;have b: ∀v∈wy n o,Inn n v:=λv hv=>⟨(ot.mp hv).1.1,(ot.mp hv).1.2.1,(ot.mp hv).2.1,(ot.mp hv).2.2.1⟩
 rw[Bk,jbX,Sm] at i;have is: ∀v∈wy n o,(((λv:WK=>decide (v.k=zb n o w/\v.e=wc o w))∘λw=>(⟨w.1,w.2,zb n o w,wc o w⟩:WK)) v=ζ↔NM n o v w):=λv hv=>by
  rw[XW,zk,Kg f d O (b v hv) (b w hw)];rfl
 obtain⟨a,j,q,p⟩:=MX ((PV n o).filter _) i (w:=w) (S4.mpr ⟨hw,(is w hw).mpr ⟨λ_ _ _ _=>rfl,rfl⟩⟩);obtain⟨g,m⟩:=S4.mp j;exact⟨a,g,q,(is a g).mp m,λv hv h=>p v (S4.mpr ⟨hv,(is v hv).mpr h⟩)⟩
theorem JI:WP a b=χ (a=b):=by
 by_cases h:a=b
 ·subst h;simp
 grind[Xk]
def D9(n:Nat)(r x o:List Nat):List Wy:=(sp n (bR r x o)).flatMap λp=>(sp n (bR r x (bU o p.1 p.2))).map λq=>(p,q)
theorem Fn: ∀n,n<=5-> ∀a,a<n-> ∀b,b<n->a≠b-> ∀x,x<n->dM n a b x= !dM n b a x:=by decide+kernel
theorem gX: ∀n,n<=5-> ∀a,a<n-> ∀b,b<n->a≠b->dM n a b a=true:=by decide+kernel
theorem hJ{r x o:List Nat}(O:Ord n o)(R:Ord n r)(X:Ord n x):kY r x o a b=ζ↔ ∀c,c<n->iU n o (a,b) c (r.getD c 0)=θ/\iU n o (a,b) c (x.getD c 0)=false:=by
 unfold kY iU;rw[O.len,Uw,W7];simp only[n5,XQ,zk,not_or,not_and,Zx];constructor
 ·intro h c d;cases i:dM n a b c with
  |false=>lia
  |true=>
   obtain⟨e,f⟩:=h c ⟨d,i⟩;exact⟨.inr (jba.mpr (e (R.get d))),.inr (jba.mpr (f (X.get d)))⟩
 grind
theorem ph{r x o:List Nat}(O:Ord n o)(R:Ord n r)(X:Ord n x):w∈D9 n r x o↔w∈wy n o/\ ∀c,c<n->Mw n o w c (r.getD c 0)=0/\Mw n o w c (x.getD c 0)=0:=by
 have z: ∀ {p q:Bool},p.toNat+q.toNat=0↔p=θ/\q=false:=λ{p q}=>by simp
 have m:w∈D9 n r x o↔(w.1.1<n/\w.1.2<n/\w.1.1≠w.1.2/\bR r x o w.1.1 w.1.2=ζ)/\(w.2.1<n/\w.2.2<n/\w.2.1≠w.2.2/\bR r x (bU o w.1.1 w.1.2) w.2.1 w.2.2=ζ):=by
  unfold D9;rw[Vg];constructor
  ·rintro⟨p,y,h⟩;obtain⟨q,u,rfl⟩:=SM.mp h;exact⟨fq.mp y,fq.mp u⟩
  ·rintro⟨l,B⟩;exact⟨w.1,fq.mpr l,SM.mpr ⟨w.2,fq.mpr B,rfl⟩⟩
 rw[m,ot];unfold bR Mw;constructor
 ·rintro⟨⟨b,d,j,s⟩,k,e,f,v⟩;obtain⟨i,A⟩:=U1.mp s;obtain⟨g,t⟩:=U1.mp v;refine⟨⟨⟨b,d,j,i⟩,k,e,f,g⟩,λc a=>?_⟩;obtain⟨D,E⟩:=(hJ O R X).mp A c a;obtain⟨C,F⟩:=(hJ (O.exx b d) R X).mp t c a;nofun
 ·rintro⟨⟨⟨b,d,j,i⟩,k,e,f,g⟩,h⟩;refine⟨⟨b,d,j,U1.mpr ⟨i,(hJ O R X).mpr λc a=>⟨(z.mp (h c a).1).1,(z.mp (h c a).2).1⟩⟩⟩,k,e,f,U1.mpr ⟨g,(hJ (O.exx b d) R X).mpr λc a=>⟨(z.mp (h c a).1).2,(z.mp (h c a).2).2⟩⟩⟩
theorem Nj(m:n<=5)(O:Ord n o)(R:Ord n r)(X:Ord n x){w:Wy}(h:w∈D9 n r x o):CH w.1 w.2=false:=by
 obtain⟨D,C⟩:=(ph O R X).mp h;obtain⟨⟨⟨a,b⟩,c,d⟩⟩:Nonempty Wy:=⟨w⟩
 obtain⟨⟨a,b⟩,c,d⟩:=w;obtain⟨⟨f,j,s,_⟩,_⟩:=ot.mp D;dsimp only at f j s;have z: ∀ {p q:Bool},p.toNat+q.toNat=0->p=θ/\q=false:=λ{p q}=>by simp
 cases e:CH (a,b) (c,d) with
 |false=>rfl
 |true=>
  exfalso;unfold CH at e;rw[JI,JI,JI,JI] at e;have F:=O.len;have B:(bU o a b).getD a 0=o.getD b 0:=by rw[fJ (by nofun) (by nofun),if_neg s,if_pos rfl]
  have A:(bU o a b).getD b 0=o.getD a 0:=by rw[fJ (by nofun) (by nofun),if_pos rfl]
  have l:o.getD a 0≠o.getD b 0:=λe=>s (O.inj f j e)
  rcases ZW.mp e with e|e
  ·have u:a=c:=by lia
   have v:b=d:=by lia
   subst u v;obtain⟨k,g⟩:=z ((C a f).1);unfold iU at k g;dsimp only at k g;rw[B,A,gX n m a f b j s,VE] at g;rw[gX n m a f b j s,VE,Fn n m _ (O.get f) _ (O.get j) l _ (R.get f),g] at k;nofun
  ·have u:a=d:=by lia
   have v:b=c:=by lia
   subst u v;obtain⟨i,t,E⟩:=VL (R.has (O.get f));have t:i<n:=by rw[<-R.len];exact t
   have y:r.getD i 0=o.getD a 0:=by nofun
   obtain⟨k,g⟩:=z ((C i t).1);unfold iU at k g;dsimp only at k g;rw[B,A,y,gX n m _ (O.get f) _ (O.get j) l,jdM] at g;rw[y,gX n m _ (O.get f) _ (O.get j) l,jdM,Fn n m a f b j s i t,g] at k;nofun
theorem Px(j:3<=n)(e:n<=5)(O:Ord n o)(R:Ord n r)(X:Ord n x)(h:w∈D9 n r x o): ∃a,a∈D9 n r x o/\a≠w/\NM n o a w/\ ∀v∈D9 n r x o,NM n o v w->v=w\/v=a:=by
 obtain⟨f,k⟩:=(ph O R X).mp h;obtain⟨a,g,l,d,i⟩:=DL j e O f (Nj e O R X h);refine⟨a,(ph O R X).mpr ⟨g,λc b=>?_⟩,l,d,λv hv=>i v ((ph O R X).mp hv).1⟩;rw[d.1 c _ b (R.get b),d.1 c _ b (X.get b)];exact k c b
theorem GT(v:Nat): ∀l:List Nat,v∈l-> ∃j,(l.map nI).findIdx? (λd=>gV d (nI v))=p5 j/\j<l.length/\l.getD j 0=v
 | [],h=>absurd h Wz
 |y::l,h=>by
  rw[So,List.findIdx?_cons,kL]
  by_cases e:y=v
  ·nofun
  ·obtain⟨j,a,b,c⟩:=GT v l ((SU.mp h).resolve_left (S9 e));nofun
structure Sg(n:Nat)(r x:List Nat)(S:Nat->Nat):Prop where
 ev: ∀y,y<n->yB (ay x) (nI (r.getD y 0))=p5 (nI (S y))
 lt: ∀y,y<n->S y<n
 inj: ∀y z,y<n->z<n->S y=S z->y=z
theorem N6(R:Ord n r)(X:Ord n x): ∃S,Sg n r x S:=by
 have h: ∀y,∃z,y<n->yB (ay x) (nI (r.getD y 0))=p5 (nI z)/\z<n/\x.getD z 0=r.getD y 0:=λy=>by
  by_cases a:y<n
  ·obtain⟨j,f,c,d⟩:=GT (r.getD y 0) x (X.has (R.get a));refine⟨j,λ_=>⟨?_,X.len▸c,d⟩⟩;show(if bJ ((r.getD y 0::x).map nI)<=32 then(xB (x.map nI) (nI (r.getD y 0))).map (λj=>D.int j) else ξ)=_;rw[if_pos (by rw[kJ];simp)];grind[xB]
  grind
 obtain⟨S,b⟩:=jbu.mp h;exact⟨S,λy a=>(b y a).1,λy a=>(b y a).2.1,λy z a hz e=>R.inj a hz ((b y a).2.2.symm.trans (e▸(b z hz).2.2))⟩
theorem pP {n:Nat}{l:List Nat}(a:l.Nodup)(h: ∀z∈l,z<n):l.length<=n:=by
 have p:l.Perm ((R9 n).filter λz=>decide (z∈l)):=(Tg a (Vs _ Uf)).mpr λz=>by
  nofun
 rw[p.length_eq];grind
def Gz(S:Nat->Nat):Nat->Nat->Nat
 |0,s=>s
 |k+1,s=>S (Gz S k s)
def Lu(S:Nat->Nat)(s z:Nat):Prop:= ∃k,Gz S k s=z
theorem lG(S:Nat->Nat)(s:Nat):Lu S s s:=⟨0,rfl⟩
theorem qx {S:Nat->Nat}(h:Lu S s z):Lu S s (S z):=let⟨k,e⟩:=h;⟨k+1,by grind[Gz]⟩
structure Wlk(n:Nat)(S:Nat->Nat)(s:Nat)(W:List Nat)(t:Nat):Prop where
 nd:W.Nodup
 lt: ∀z∈W,z<n
 hs:s∈W
 ht:t∈W
 pre: ∀z∈W,z≠s-> ∃y∈W,y≠t/\S y=z
 nxt: ∀z∈W,z≠t->S z∈W
 on: ∀z∈W,Lu S s z
 back: ∀z∈W,Lu S z t
structure Cyc(n:Nat)(S:Nat->Nat)(s:Nat)(W:List Nat):Prop where
 lt: ∀z∈W,z<n
 mem: ∀z,z∈W↔Lu S s z
 back: ∀z,z∈W->Lu S z s
section
variable {n:Nat}{r x:List Nat}{S:Nat->Nat}(H:Sg n r x S)
theorem Wlk.start(b:s<n):Wlk n S s [s] s:=
 ⟨by simp,λz hz=>by grind,by grind,by grind,λz hz a=>absurd (SI.mp hz) a,λz hz a=>absurd (SI.mp hz) a,λz hz=>by grind[lG],λz hz=>by grind[lG]⟩
include H
theorem Wlk.notin(w:Wlk n S s W t)(h:S t≠s):S t∉W:=λa=>by
 obtain⟨y,b,d,c⟩:=w.pre _ a h;exact d (H.inj _ _ (w.lt _ b) (w.lt _ w.ht) c)
theorem Wlk.next(w:Wlk n S s W t)(h:S t≠s):Wlk n S s (W++[S t]) (S t):=by
 have d:=w.notin H h;have a: ∀ {P:Nat->Prop},(∀z∈W,P z)->P (S t)-> ∀z∈W++[S t],P z:=λc j z hz=>(SL.mp hz).elim (c z) λq=>by grind
 refine⟨Th.mpr ⟨w.nd,by simp,λu g v hv=>by grind⟩,a w.lt (H.lt _ (w.lt _ w.ht)),Tq _ w.hs,by simp,a (λz hz b=>?_) (λ_=>⟨t,Tq _ w.ht,λe=>d (e▸w.ht),rfl⟩),a (λz hz b=>?_) (λq=>absurd rfl q),a w.on (qx (w.on _ w.ht)),a (λz hz=>qx (w.back z hz)) (lG S _)⟩
 ·obtain⟨y,i,_,f⟩:=w.pre z hz b;grind
 ·by_cases e:z=t
  ·grind
  ·exact Tq _ (w.nxt z hz e)
omit H in
theorem Wlk.done(w:Wlk n S s W t)(h:S t=s):Cyc n S s W:=by
 refine⟨w.lt,λz=>⟨w.on z,?_⟩,λz hz=>h▸qx (w.back z hz)⟩;rintro⟨k,rfl⟩
 induction k with
 |zero=>exact w.hs
 |succ k a=>
  show S (Gz S k s)∈W
  by_cases e:Gz S k s=t
  ·rw[e,h];exact w.hs
  ·exact w.nxt _ a e
end
def led(S:Nat->Nat)(s:Nat):Prop:= ∀z,Lu S s z->s<=z
noncomputable def qN(S:Nat->Nat)(s:Nat):Bool:= @decide (led S s) (Classical.propDecidable _)
theorem u7 {S:Nat->Nat}:qN S s=ζ↔led S s:=by simp[qN]
def NL:FT:=bO (ar oZ (ar aY (ah 0) (ar aY (dZ 3) (zh (aD (.int 1))))) (ah 2))
def NK:FS:=dB (a9 3 1 oY (cV (ae (ar aY (ah 0) (ar aY (dZ 3) (zh (aD (.int 1))))) (ai))))
def P5:FS:=fL (bO (ar wS (am xx (ae (dZ 3) (ai))) (ah 2))) ((λρ=>(dB (a9 1 1 oY (cV (ae (ah 3) (ai))))) (DX 3 ρ))) (dc)
def fA:FS:=
 aF (dW 1 (bZ (ai)))
 (aF (eL (cV (cC (ae (am cR (ae (ah 0) (ai))) (ai)))) (gN 2) (aF (dW 3 (bZ (ae (ah 2) (ai))))
 (aF (rD NL NK 16)
 P5)))
 (zI 1))
def iQ:List D->Option D:=bP .n 4 fA
structure Wl(n:Nat)(S:Nat->Nat)(s:Nat)(W:List Nat)(t:Nat):Prop where
 w:Wlk n S s W t
 last:W.getLast?=p5 t
 eq:W=(R9 W.length).map λi=>Gz S i s
structure Cy(n:Nat)(S:Nat->Nat)(s:Nat)(W:List Nat):Prop where
 c:Cyc n S s W
 eq:W=(R9 W.length).map λi=>Gz S i s
 per:Gz S W.length s=s
 nd:W.Nodup
 pos:0<W.length
structure Sh(n:Nat)(S:Nat->Nat):Prop where
 lt: ∀y,y<n->S y<n
 inj: ∀y z,y<n->z<n->S y=S z->y=z
theorem Sh.sg{S:Nat->Nat}(H:Sh n S):Sg n ((R9 n).map S) (R9 n) S:=by
 refine⟨λy a=>?_,H.lt,H.inj⟩;have e:((R9 n).map S).getD y 0=S y:=by nofun
 rw[e];obtain⟨j,b,c,d⟩:=GT (S y) (R9 n) (SE.mpr (H.lt y a));have:j=S y:=by
  grind
 subst this;show(if bJ ((S y::R9 n).map nI)<=32 then(xB ((R9 n).map nI) (nI (S y))).map (λj=>D.int j) else ξ)=_;rw[if_pos (by rw[kJ];simp)];grind[xB]
theorem Wl.start {n:Nat}{S:Nat->Nat}(a:s<n):Wl n S s [s] s:=⟨Wlk.start a,rfl,rfl⟩
theorem Wl.tt{S:Nat->Nat}{W:List Nat}(w:Wl n S s W t):S t=Gz S W.length s:=by
 have h:=w.last;have e:=w.eq;have c:0<W.length:=by
  grind
 rw[WD] at h;have b:W[W.length-1]? =p5 (Gz S (W.length-1) s):=by
  grind
 have a:=h.symm.trans b;injection a with a
 have:W.length=(W.length-1)+1:=by lia
 grind[Gz]
theorem Wl.next{S:Nat->Nat}(H:Sh n S)(w:Wl n S s W t)(h:S t≠s):Wl n S s (W++[S t]) (S t):=by
 refine⟨w.w.next H.sg h,by simp,?_⟩;rw[SG,TX,jca,SZ,<-w.eq,w.tt];rfl
theorem Wl.done{S:Nat->Nat}(w:Wl n S s W t)(h:S t=s):Cy n S s W:=by
 refine⟨w.w.done h,w.eq,by rw[<-w.tt];exact h,w.w.nd,?_⟩;have:=w.last;grind
theorem Cy.uniq {n:Nat}{S:Nat->Nat}{s:Nat}{W W':List Nat}(a:Cy n S s W)(b:Cy n S s W'):W=W':=by
 have key: ∀ {W W':List Nat},Cy n S s W->Cy n S s W'-> ¬W.length<W'.length:=λ{W W'} a b h=>by
  have e0:W'[0]? =p5 s:=by rw[b.eq];simp[b.pos];rfl
  have e1:W'[W.length]? =p5 s:=by rw[b.eq];simp[h];exact a.per
  have:=(jaW (by exact b.pos) b.nd).mp (e0.trans e1.symm);have:=a.pos;nofun
 have:W.length=W'.length:=by grind
 rw[a.eq,b.eq,this]
section
variable {n:Nat}{S:Nat->Nat}(H:Sh n S)(hn:n<=14)
abbrev HZ(n:Nat)(S:Nat->Nat)(F:List D)(s:Nat)(W:List Nat):aC:=[.v (.lst (((R9 n).map S).map nI)),.own F,.v (nI s),.own (W.map nI)]
theorem Iu {W:List Nat}(h:W.getLast?=p5 t):aY (.lst (W.map nI)) (.int (-1))=p5 (nI t):=by
 show pi (W.map nI) (-1)=_;have a:0<W.length:=by
  grind
 unfold pi vO;rw[if_neg (by simp),if_pos (by grind),Ss];have:(-1+((W.map nI).length:Int)).toNat=W.length-1:=by grind
 rw[this,Us,<-WD,h];rfl
theorem MD(ρ:aC):zh (aD (.int 1)) ρ=p5 (.int (-1)):=rfl
include H in
theorem Ht(w:Wl n S s W t):ar aY (ah 0) (ar aY (dZ 3) (zh (aD (.int 1)))) (HZ n S F s W)=p5 (nI (S t)):=by
 refine(aw (x:=.lst (((R9 n).map S).map nI)) (y:=nI t) rfl ((aw (x:=.lst (W.map nI)) rfl (MD _)).trans (Iu w.last))).trans ?_
 have a:=w.w.lt _ w.w.ht;grind[yH]
include H hn in
theorem wl(F:List D)(s:Nat): ∀(f:Nat) (W:List Nat) (t:Nat),n<f+W.length->Wl n S s W t->
 ∃L,rD NL NK f (HZ n S F s W)=.nx (HZ n S F s L)/\Cy n S s L
 |0,W,t,h,w=>absurd (pP w.w.nd w.w.lt) (by nofun)
 |f+1,W,t,h,w=>by
  unfold rD;have a:NL (HZ n S F s W)=p5 (!χ (S t=s)):=by
   unfold NL;refine bN ((aw (x:=nI (S t)) (y:=nI s) (Ht H w) rfl).trans ?_);simp[nK,df,kL]
  rw[a]
  by_cases e:S t=s
  ·rw[show(!χ (S t=s))=θ by grind];exact⟨W,rfl,w.done e⟩
  ·rw[show(!χ (S t=s))=ζ by simp[e]];have g:=pP w.w.nd w.w.lt;have b:NK (HZ n S F s W)=.nx (HZ n S F s (W++[S t])):=by
    unfold NK;refine(AB (i:=3) (bs:=W.map nI) (d:=nI (S t)) rfl (bx (ak (Ht H w) rfl)) rfl (by grind)).trans ?_
    unfold HZ;rw[SZ];rfl
   obtain⟨L,c,j⟩:=wl F s f (W++[S t]) (S t) (by grind) (w.next H e);grind
theorem HL: ∀l:List Nat,b9 (l.map nI)=p5 (l.map λ(z:Nat)=>(z:Int))
 | []=>rfl
 |z::l=>by simp[b9,HL]
theorem Pp {l:List Nat}{s:Nat}(h:s∈l): ∃v:Int,xx [.lst (l.map nI)]=p5 (.int v)/\(v=s↔ ∀z∈l,s<=z):=by
 refine⟨ni (l.map λ(z:Nat)=>(z:Int)),?_,?_⟩
 ·show((b9 (l.map nI)).bind λns=>if ns.isEmpty=ζ then ξ else p5 (D.int (ni ns)))=_;rw[HL];cases l<;>grind
 ·cases l with
  |nil=>nofun
  |cons a l=>
   obtain⟨c,b⟩:=xI (l.map λ(z:Nat)=>(z:Int)) (a:Int);have c:ni ((a::l).map λ(z:Nat)=>(z:Int))∈(a::l).map λ(z:Nat)=>(z:Int):=c
   have b: ∀x∈(a::l).map (λ(z:Nat)=>(z:Int)),ni ((a::l).map λ(z:Nat)=>(z:Int))<=x:=b
   constructor
   ·intro e z hz;have:=b z (SM.mpr ⟨z,hz,rfl⟩);nofun
   ·intro q;have d:=b s (SM.mpr ⟨s,h,rfl⟩);grind
include H hn in
theorem oX: ∃C:Nat->List Nat,(∀s,s<n->Cy n S s (C s))/\
 iQ [.lst (((R9 n).map S).map nI)]=p5 (.lst (((R9 n).filter (qN S)).map λs=>.lst ((C s).map nI))):=by
 have hC: ∀s,∃L,s<n->Cy n S s L:=λs=>by
  by_cases hs:s<n
  ·obtain⟨L,_,h⟩:=wl H hn [] s 16 [s] s (by simp;lia) (Wl.start hs);grind
  ·exact⟨[],λh=>absurd h hs⟩
 obtain⟨C,hC⟩:=jbu.mp hC;refine⟨C,hC,?_⟩;have lp: ∀(l:List Nat),(∀s∈l,s<n)-> ∀(F:List D) (s2 s3:Sl),F.length+l.length<=900-> ∃s2' s3',c9 (gN 2) (aF (dW 3 (bZ (ae (ah 2) (ai)))) (aF (rD NL NK 16) P5)) (l.map nI) [.v (.lst (((R9 n).map S).map nI)),.own F,s2,s3]
  =.nx [.v (.lst (((R9 n).map S).map nI)),.own (F++(l.filter (qN S)).map λs=>.lst ((C s).map nI)),s2',s3']:=by
  intro l
  induction l with
  |nil=>intro _ F s2 s3 _;exact⟨s2,s3,by simp[c9]⟩
  |cons s l ih=>
   intro hl F s2 s3 hF;rw[SN] at hF;have hs:=hl s (SB ..);obtain⟨L,hL,K⟩:=wl H hn F s 16 [s] s (by simp;lia) (Wl.start hs);cases K.uniq (hC s hs);have b1:(aF (dW 3 (bZ (ae (ah 2) (ai)))) (aF (rD NL NK 16) P5)) [.v (.lst (((R9 n).map S).map nI)),.own F,.v (nI s),s3]=P5 (HZ n S F s (C s)):=
    (ax (ρ':=HZ n S F s [s]) ((fG (mL (ds:=[nI s]) rfl (by simp))).trans rfl)).trans (ax hL)
   obtain⟨v,hv,hv2⟩:=Pp ((K.c.mem s).mpr (lG S s));have hv3:v=s↔qN S s=true:=hv2.trans ((Iff.intro (λq z hz=>q z ((K.c.mem z).mpr hz)) λq z hz=>q z ((K.c.mem z).mp hz)).trans u7.symm);have ih':=ih λz hz=>hl z (Sx _ hz)
   have tt:bO (ar wS (am xx (ae (dZ 3) (ai))) (ah 2)) (HZ n S F s (C s))=p5 (qN S s):=by
    refine bN ((aw (x:=.int v) (y:=nI s) ((bF (ds:=[.lst ((C s).map nI)]) rfl).trans hv) rfl).trans ?_);grind[gM,df,gv]
   cases e:qN S s
   ·rw[e] at tt;obtain⟨s2',s3',h⟩:=ih' F (.v (nI s)) (.own ((C s).map nI)) (by grind);refine⟨s2',s3',?_⟩;rw[So,WZ ⋯,<-h];exact bT (ρ1:=[.v (.lst (((R9 n).map S).map nI)),.own F,.v (nI s),s3]) rfl (b1.trans (lB tt))
   ·rw[e] at tt;obtain⟨s2',s3',h⟩:=ih' (F++[.lst ((C s).map nI)]) (.v (nI s)) (.v (.lst ((C s).map nI))) (by grind);refine⟨s2',s3',?_⟩;rw[So,U6 e,So,List.append_cons,<-h];exact bT (ρ1:=[.v (.lst (((R9 n).map S).map nI)),.own F,.v (nI s),s3]) rfl (b1.trans ((lZ tt).trans ((AB (i:=1) (bs:=F) (d:=.lst ((C s).map nI)) rfl (bx rfl) rfl (by grind)).trans rfl)))
 obtain⟨s2',s3',h⟩:=lp (R9 n) (λs hs=>SE.mp hs) [] .no .no (by simp;lia);apply aS (kd:=.n) (n:=4) (t:=fA);unfold fA;refine(ax (ρ':=[.v (.lst (((R9 n).map S).map nI)),.own [],.no,.no]) ((fG (mL (ds:=[]) rfl (by simp))).trans rfl)).trans ?_
 refine(ax ((cG (ds:=(R9 n).map nI) (bx (cZ (n:=n) (ak ((EF ((R9 n).map S) _ _ rfl).trans (by simp)) rfl) ⋯))).trans h)).trans ?_
 rfl
end
def jj:FS:=
 aF (eK (gT 2 (gp (gN 1) (gp (gN 2) (kZ)))) (pu (ah 0)))
 (bH (am (nF 1 iQ) (ae (bm 1 (zc (ah 1)) (gN 3) (dH) (ar yB (ah 2) (ah 3))) (ai))))
def yt:List D->Option D:=bP .n 3 jj
theorem Sg.sh {n:Nat}{S:Nat->Nat}(H:Sg n r x S):Sh n S:=⟨H.lt,H.inj⟩
theorem CM(r:List Nat):r=(R9 r.length).map λy=>r.getD y 0:=by
 apply VQ (by simp);nofun
theorem C3{S:Nat->Nat}(R:Ord n r)(X:Ord n x)(H:Sg n r x S)(d:n<=8): ∃C:Nat->List Nat,(∀s,s<n->Cy n S s (C s))/\
 yt [bt r x]=p5 (.lst (((R9 n).filter (qN S)).map λs=>.lst ((C s).map nI))):=by
 obtain⟨C,c,h⟩:=oX H.sh (by grind);refine⟨C,c,?_⟩;apply aS (kd:=.n) (n:=3) (t:=jj);unfold jj;refine(ax (ρ':=[.v (bt r x),.v (ay r),.v (ay x)]) (rg (oR rfl) rfl)).trans ?_
 refine aU ((a7 (ds:=[.lst (((R9 n).map S).map nI)]) (ak ?_ rfl) rfl).trans h);refine bB (ds:=r.map nI) (Kz rfl) (by rw[Sm,R.len];lia) ?_
 have b:r.map nI=(R9 n).map λy=>nI (r.getD y 0):=by
  conv=>lhs;rw[CM r,R.len,SJ]
  rfl
 rw[b,SJ];refine bM (R9 n) λy a=>?_
 rw[SE] at a;exact⟨_,rfl,(aw (x:=ay x) (y:=nI (r.getD y 0)) rfl rfl).trans (H.ev y a)⟩
theorem gR(h:p ρ=p5 θ):fL p t dc ρ=.nx ρ:=(lB h).trans rfl
theorem nE{a b:Bool}(c:p ρ=p5 a)(d:q ρ=p5 b):sI p q ρ=p5 (a||b):=by
 cases a with
 |true=>exact Ln c
 |false=>exact Fj c d
theorem PB(h:p ρ=p5 ζ):Lq p f g ρ=f ρ:=by grind[Lq]
theorem Pt(h:p ρ=p5 θ):Lq p f g ρ=g ρ:=by grind[Lq]
theorem dS{ds:List D}(h:f ρ=p5 (.lst ds)):d9 f ρ=p5 ds:=by grind[d9]
structure Gd(n:Nat)(r x:List Nat):Prop where
 R:Ord n r
 X:Ord n x
 lo:2<=n
 hi:n<=6
set_option maxHeartbeats 1000000
def sR:FS:=
 aF (f8 2 (a9 0 1 dE (cV (ae (aD (.int 4)) (ai)))))
 (aF (f8 3 (pR cr (pu (aD (.int 1))) (a9 0 1 dE (cV (ae (ar fw (ah 1) (aD (.int 1))) (ai))))))
 (aF (f8 4 (a9 0 1 ic (cV (ae (ah 1) (ai)))))
 (aF (y8 5 (a9 0 1 ic (cV (ae (ah 1) (ai)))))
 (aF (fL (bO (ar wS (ah 2) (aD (.int 1)))) (aF (bp 4 (HD (ah 1)))
 (dW 5 (bm 1 (d9 (ah 4)) (gN 8) (dH) (ar bo (ar cr (ah 8) (ah 3)) (ah 1))))) (dc))
 (aF (eL (cV (cC (ae (ah 1) (ai)))) (gN 6) (aF (bp 7 (ar bo (ar cr (ah 6) (aD (.int 1))) (ah 1)))
 (fL (bO (ar wS (ar aY (dZ 5) (ah 6)) (ar aY (ah 4) (ah 6)))) (eK (gT 2 (gp (cI 5 (ah 6)) (gp (cI 5 (ah 7)) (kZ)))) (pu (dz (ae (ar aY (dZ 5) (ah 7)) (ae (ar aY (dZ 5) (ah 6)) (ai)))))) (dc))))
 (bH (dz (ae (am iE (ae (ah 4) (ai))) (ae (am iE (ae (dZ 5) (ai))) (ai))))))))))
def uo:List D->List D->Option (D×List D):=yP .s 8 sR
theorem zC {N:Nat}(B:Bag N a b){n:Nat}(G:2<=n)(K:n<=6)(hN:N<=800000000): ∃(r x:List Nat) (H b':Int),uo (bc a b) [nI n]=p5 (bt r x,bc H b')/\Sq n r x/\Bag (N+2*n+2) H b':=by
 obtain⟨p,C,D,R,S,p0,p1⟩:=jS (m:=4) B ⋯ (by simp) (by simp);obtain⟨q,u,z,V,Q,q0,q1⟩:=jS (m:=(n:Int) -1) S ⋯ (by grind) (SH (show((n:Int) -1).natAbs<10^10 by omega) (by simp));obtain⟨r,t,l,T,or,L⟩:=xu Q (n:=n) ⋯ ⋯;obtain⟨x,d,e,P,U,B4⟩:=xu L (n:=n) ⋯ ⋯;obtain⟨c,rfl⟩: ∃j:Nat,q=(j:Int):=⟨q.toNat,⋯⟩
 have Z:p9 8 (bc a b) [nI n]=[.arg (bc a b),.v (nI n),.no,.no,.no,.no,.no,.no]:=rfl;have J:f8 2 (a9 0 1 dE (cV (ae (aD (.int 4)) (ai)))) [.arg (bc a b),.v (nI n),.no,.no,.no,.no,.no,.no]=.nx [.arg (bc C D),.v (nI n),.v (.int p),.no,.no,.no,.no,.no]:=
  (gB (cL (i:=0) (n:=1) (b0:=bc a b) (ds:=[.int 4]) rfl (bx rfl) rfl rfl R)).trans rfl
 have W:f8 3 (pR cr (pu (aD (.int 1))) (a9 0 1 dE (cV (ae (ar fw (ah 1) (aD (.int 1))) (ai))))) [.arg (bc C D),.v (nI n),.v (.int p),.no,.no,.no,.no,.no]=.nx [.arg (bc u z),.v (nI n),.v (.int p),.v (nI (c+1)),.no,.no,.no,.no]:=
  (gB (BS (oR rfl) (cL (i:=0) (n:=1) (b0:=bc C D) (ds:=[.int ((n:Int) -1)]) rfl (bx rfl) rfl rfl V) (show cr (.int 1) (nI c)=p5 (nI (c+1)) by rw[fZ];simp;lia))).trans rfl
 have I:f8 4 (a9 0 1 ic (cV (ae (ah 1) (ai)))) [.arg (bc u z),.v (nI n),.v (.int p),.v (nI (c+1)),.no,.no,.no,.no]=.nx [.arg (bc t l),.v (nI n),.v (.int p),.v (nI (c+1)),.v (.lst (r.map nI)),.no,.no,.no]:=
  (gB (cL (i:=0) (n:=1) (b0:=bc u z) (ds:=[nI n]) rfl (bx rfl) rfl rfl T)).trans rfl
 have O:y8 5 (a9 0 1 ic (cV (ae (ah 1) (ai)))) [.arg (bc t l),.v (nI n),.v (.int p),.v (nI (c+1)),.v (.lst (r.map nI)),.no,.no,.no]=.nx [.arg (bc d e),.v (nI n),.v (.int p),.v (nI (c+1)),.v (.lst (r.map nI)),.own (x.map nI),.no,.no]:=
  (JO (cL (i:=0) (n:=1) (b0:=bc t l) (ds:=[nI n]) rfl (bx rfl) rfl rfl P)).trans rfl
 have w: ∃(f g:List Nat),fL (bO (ar wS (ah 2) (aD (.int 1)))) (aF (bp 4 (HD (ah 1)))
  (dW 5 (bm 1 (d9 (ah 4)) (gN 8) (dH) (ar bo (ar cr (ah 8) (ah 3)) (ah 1))))) (dc) [.arg (bc d e),.v (nI n),.v (.int p),.v (nI (c+1)),.v (.lst (r.map nI)),.own (x.map nI),.no,.no]=.nx [.arg (bc d e),.v (nI n),.v (.int p),.v (nI (c+1)),.v (.lst (f.map nI)),.own (g.map nI),.no,.no]/\Ord n f/\Ord n g:=by
  unfold fL bO;rw[aw (x:=.int p) (y:=.int 1) rfl rfl,gM (by simp[df]),gv]
  by_cases F:p=1
  ·refine⟨R9 n,(R9 n).map λi=>(i+(c+1)) % n,?_,⟨.refl _⟩,Is n G K (c+1) (by simp) ⋯⟩;rw[zm F];simp only[DY];rw[ax ((bf (Ep (n:=n) ⋯ (ah 1) _ rfl)).trans rfl)];refine(fG (bB (ds:=(R9 n).map nI) (ys:=(R9 n).map λi=>nI ((i+(c+1)) % n)) rfl (by simp;grind) (bM _ λi hi=>⟨_,rfl,?_⟩))).trans ?_
   ·exact(aw ((aw (x:=nI i) (y:=nI (c+1)) rfl rfl).trans (Mq _ _)) (y:=nI n) rfl).trans (KR ⋯)
   ·rw[SJ];rfl
  ·refine⟨r,x,?_,or,U⟩;rw[zq F];simp[DY,dc]
 obtain⟨f,g,w,k,s⟩:=w;obtain⟨E,M,X,lp,o,A⟩:=Lc (bc d e) (.int p) (nI (c+1)) k G n 0 g .no .no (by simp) s (λi h=>absurd h (WM _));have Y:eL (cV (cC (ae (ah 1) (ai)))) (gN 6) Cn [.arg (bc d e),.v (nI n),.v (.int p),.v (nI (c+1)),.v (.lst (f.map nI)),.own (g.map nI),.no,.no]=.nx [.arg (bc d e),.v (nI n),.v (.int p),.v (nI (c+1)),.v (.lst (f.map nI)),.own (E.map nI),M,X]:=by
  unfold eL;rw[bx (cZ (n:=n) rfl ⋯)];simp[ZG,lp]
 refine⟨f,E,d,e,?_,⟨k,o,A⟩,⋯⟩;unfold uo yP sR;rw[Z,ax J,ax W,ax I,ax O,ax w];rw[ax Y];rfl
theorem ML {kd:Kd}{n:Nat}{t:FS}{bs ds b':List D}{ρ:aC}(h:t (p9 n bs ds)=.rt d ρ)(a:rC ρ=p5 b'):yP kd n t bs ds=p5 (d,b'):=by unfold yP;nofun
theorem qR {g:FG}{b:FS}{P:Nat->aC->Prop}: ∀(l:List D) (j:Nat),(∀d∈l,∀i ρ,i<j+l.length->P i ρ-> ∃ρ1 ρ2,g d ρ=p5 ρ1/\b ρ1=.nx ρ2/\P (i+1) ρ2)-> ∀ρ,P j ρ-> ∃ρ',c9 g b l ρ=.nx ρ'/\P (j+l.length) ρ'
 | [],j,_,ρ,p=>⟨ρ,rfl,p⟩
 |d::l,j,h,ρ,p=>by
  obtain⟨ρ1,ρ2,a,k,f⟩:=h d (SB ..) j ρ (by simp) p;obtain⟨ρ',e,c⟩:=qR l (j+1) (λd' m i ρ n=>h d' (Sx _ m) i ρ (by rw[SN];grind)) ρ2 f;exact⟨ρ',(bT a k).trans e,by rw[SN,jeL l.length 1,<-jdN];exact c⟩
theorem qL{j:Nat}: ∀ {n:Nat},j<n->(∀i,i<n->(p i=ζ↔i=j))->(R9 n).filter p=[j]
 |0,h,_=>absurd h (WM _)
 |n+1,d,h=>by
  rw[jca,Yh]
  by_cases e:j=n
  ·subst e;have b:(R9 j).filter p=[]:=Zi.mpr λa c q=>by
    grind
   rw[b,U6 ((h j (by omega)).mpr rfl)];rfl
  ·rw[qL (n:=n) ⋯ λi f=>h i ⋯,WZ λq=>e ((h n (by simp)).mp q).symm];rfl
theorem pK: ∀ns:List Int,ey.intK (iK ns)=p5 ns
 | []=>rfl
 |n::ns=>by
  show(ey.intK (iK ns)).map (n:: ·)=_;simp[pK]
theorem Mu(h:iK a=iK b):a=b:=by
 have:=congrArg ey.intK h;grind[pK]
theorem Hj(kvs:j9)(k b:List bj)(d:D):cv (oT kvs k d) b=if b=k then p5 d else cv kvs b:=by
 unfold oT cv;split
 ·rename_i h
  induction kvs with
  |nil=>simp at h
  |cons p kvs g=>
   rw[So]
   by_cases e:p.1=k
   ·rw[if_pos e,Vr]
    by_cases c:b=k
    ·nofun
    ·rw[if_neg c,Vr];have f:decide (p.1=b)=false:=zq λw=>c (w.symm.trans e)
     simp only[f]
     by_cases h':(kvs.any λa=>decide (a.1=k))=ζ
     ·lia
     ·have:kvs.map (λa=>if a.1=k then(a.1,d) else a)=kvs:=by
       refine(TC λq i=>?_).trans (jbL _);grind
      nofun
   grind
 grind
theorem JM(h:cv kvs k=ξ)(d:D):oT kvs k d=kvs++[(k,d)]:=by
 unfold oT;rw[if_neg];grind[cv,V5]
def jH(acc:List (List Int))(k:List Int):List (List Int):=if k∈acc then oM acc k else n8 acc k
def yG(ks:List (List Int)):List (List Int):=ks.foldl jH []
theorem xR(acc:List (List Int))(k z:List Int):z∈jH acc k↔(if z=k then¬z∈acc else z∈acc):=by
 unfold jH
 by_cases h:k∈acc
 ·rw[if_pos h];unfold oM;grind
 ·rw[if_neg h];unfold n8;grind
theorem wG {acc:List (List Int)}(a:acc.Nodup)(k:List Int):(jH acc k).Nodup:=by
 unfold jH
 by_cases h:k∈acc
 ·rw[if_pos h];exact Vi VM a
 ·rw[if_neg h];unfold n8;rw[if_neg h,Th];exact⟨a,by simp,λx c y b e=>by nofun⟩
theorem BQ: ∀(ks:List (List Int)) {acc:List (List Int)},acc.Nodup->(ks.foldl jH acc).Nodup
 | [],_,h=>h
 |k::ks,_,h=>BQ ks (wG h k)
theorem xb(z:List Int): ∀(ks acc:List (List Int)),z∈ks.foldl jH acc↔(if z∈acc then(ks.count z) % 2=0 else(ks.count z) % 2=1)
 | [],acc=>by
   simp
 |k::ks,acc=>by
  rw[V7,xb z ks (jH acc k),List.count_cons];have h:=xR acc k z
  by_cases e:z=k
  ·rw[if_pos e] at h;have a:(k==z)=true:=by nofun
   rw[a,if_pos rfl]
   by_cases c:z∈acc
   ·rw[if_pos c,if_neg (λw=>h.mp w c)];lia
   ·rw[if_neg c,if_pos (h.mpr c)];lia
  ·rw[if_neg e] at h;have a:(k==z)=false:=by rw[beq_eq_false_iff_ne];exact λw=>e w.symm
   nofun
theorem uL(ks:List (List Int))(z:List Int):z∈yG ks↔(ks.count z) % 2=1:=by
 have:=xb z ks [];rw[if_neg (by simp)] at this;exact this
theorem GF(ks:List (List Int)):(yG ks).Nodup:=BQ ks Wq
theorem Mm{z:List Int}(h:z∈yG ks):z∈ks:=by
 have:=(uL ks z).mp h;grind
def fC(ks:List (List Int)):List (List Int):=bz aT (yG ks)
theorem ul {ks l:List (List Int)}(a:l.Nodup)(h: ∀z,z∈l↔(ks.count z) % 2=1):bz aT l=fC ks:=
 jU ((Tg a (GF ks)).mpr λz=>(h z).trans (uL ks z).symm)
def CU(kvs:j9)(k:List Int):j9:=oT kvs (iK k) (.bl (match cv kvs (iK k) with|some (.bl b)=> !b|_=>ζ))
structure q7(kvs:j9)(ks:List (List Int)):Prop where
 keys: ∃l:List (List Int),kvs.map (·.1)=l.map iK/\l.Nodup/\ ∀z,z∈l↔z∈ks
 val: ∀z,z∈ks->cv kvs (iK z)=p5 (.bl (χ ((ks.count z) % 2=1)))
 non: ∀z,z∉ks->cv kvs (iK z)=ξ
theorem tN(kvs:j9)(k:List bj)(d:D):(oT kvs k d).map (·.1)=if(cv kvs k).isSome then kvs.map (·.1) else kvs.map (·.1)++[k]:=by
 by_cases h:(cv kvs k).isSome=ζ
 ·rw[if_pos h];unfold oT;have:(kvs.any λa=>decide (a.1=k))=true:=by
   unfold cv at h;nofun
  rw[if_pos this,SJ];refine TC λq _=>?_
  show(if q.1=k then(q.1,d) else q).1=q.1;split<;>rfl
 ·have h:cv kvs k=none:=by simpa using h
  rw[JM h,h,SZ];rfl
theorem q7.start:q7 [] []:=⟨⟨[],rfl,Wq,λz=>Iff.rfl⟩,λz h=>absurd h Wz,λz _=>rfl⟩
theorem q7.step(I:q7 kvs ks)(k:List Int):q7 (CU kvs k) (ks++[k]):=by
 have zN: ∀z,cv (CU kvs k) (iK z)=if z=k then p5 (.bl (match cv kvs (iK k) with|some (.bl b)=> !b|_=>ζ)) else cv kvs (iK z):=λz=>by
  unfold CU;rw[Hj]
  by_cases e:z=k
  ·nofun
  ·rw[if_neg e,if_neg λw=>e (Mu w)]
 refine⟨?_,λz hz=>?_,λz hz=>?_⟩
 ·obtain⟨l,a,d,h⟩:=I.keys
  by_cases c:k∈ks
  ·refine⟨l,?_,d,λz=>?_⟩
   ·unfold CU;rw[tN,I.val k c];exact a
   nofun
  ·refine⟨l++[k],?_,?_,λz=>?_⟩
   ·unfold CU;rw[tN,I.non k c,a,SZ];rfl
   ·rw[Th];exact⟨d,by simp,λx i y j e=>by nofun⟩
   nofun
 ·rw[zN,List.count_append]
  by_cases e:z=k
  ·subst e;rw[if_pos rfl];have g:jcZ z [z]=1:=by simp
   rw[g]
   by_cases c:z∈ks
   ·rw[I.val z c];congr 2;show(!χ _)=χ _;lia
   ·rw[I.non z c,jak.mpr c];rfl
  ·have f:jcZ z [k]=0:=jak.mpr (by simpa using e);rw[if_neg e,f,jaQ];refine I.val z ?_
   nofun
 ·rw[zN,if_neg λw=>hz (by rw[w];simp)];exact I.non z λw=>hz (Tq _ w)
theorem q7.srt {kvs:j9}{ks:List (List Int)}(I:q7 kvs ks): ∃l:List (List Int),ey kvs=p5 l/\(∀z∈l,z∈ks)/\(∀z∈l,cv kvs (iK z)=p5 (.bl (χ ((ks.count z) % 2=1))))/\bz aT (l.filter λz=>decide ((ks.count z) % 2=1))=fC ks/\l.length=kvs.length:=by
 obtain⟨l,b,c,a⟩:=I.keys;have d: ∀(kvs:j9) (l:List (List Int)),kvs.map (·.1)=l.map iK->ey kvs=p5 l:=by
  intro kvs
  induction kvs with
  |nil=>intro l h;cases l with|nil=>rfl|cons _ _=>cases h
  |cons p kvs e=>
   intro l h;cases l with
   |nil=>cases h
   |cons z l=>
    rw[So,So] at h;grind[ey,pK]
 refine⟨l,d kvs l b,λz hz=>(a z).mp hz,λz hz=>I.val z ((a z).mp hz),ul (Vi VM c) λz=>?_,?_⟩
 ·rw[S4,zk,a];exact⟨λw=>w.2,λw=>⟨jal.mp (by omega),w⟩⟩
 ·have:=congrArg Uk b;grind
theorem IA(f:List Int->Nat){acc:List (List Int)}(b:acc.Nodup)(h:k∈acc):((oM acc k).map f).sum+f k=(acc.map f).sum:=by
 unfold oM
 induction acc with
 |nil=>nofun
 |cons a l c=>
  rw[TW] at b
  by_cases e:a=k
  ·subst e;have:l.filter (λz=>decide (z≠a))=l:=Ur.mpr λz hz=>zm λw=>b.1 (w▸hz)
   grind
  grind
theorem Fc(f:List Int->Nat){acc:List (List Int)}(a:acc.Nodup)(k:List Int):((jH acc k).map f).sum % 2=((acc.map f).sum+f k) % 2:=by
 unfold jH
 by_cases h:k∈acc
 ·rw[if_pos h];grind[IA]
 ·rw[if_neg h];grind[n8]
theorem yE(f:List Int->Nat): ∀(ks:List (List Int)) {acc:List (List Int)},acc.Nodup->((ks.foldl jH acc).map f).sum % 2=((acc.map f).sum+(ks.map f).sum) % 2
 | [],acc,_=>by rfl
 |k::ks,acc,a=>by
  rw[V7,yE f ks (wG a k),So,VJ];have:=Fc f a k;lia
theorem JB(f:List Int->Nat)(ks:List (List Int)):((yG ks).map f).sum % 2=((ks.map f).sum) % 2:=by
 simp[yE,yG]
theorem xw {l m:List Nat}(p:l.Perm m):l.sum=m.sum:=by
 grind
theorem Kv(f:List Int->Nat)(ks:List (List Int)):((fC ks).map f).sum % 2=((ks.map f).sum) % 2:=by
 grind[fC,bw,JB]
theorem dP {α:Type}(z:List Int)(g:α->List (List Int)): ∀l:List α,(l.flatMap g).count z=(l.map λy=>(g y).count z).sum
 | []=>rfl
 |a::l=>by simp[dP]
theorem Dq {α:Type} [DecidableEq α]{R:α->α->Prop}(r: ∀a b,R a b->R b a): ∀(m:Nat) (l:List α),l.length=m->l.Nodup->(∀w∈l,∃c,c∈l/\c≠w/\R c w/\ ∀v∈l,R v w->v=w\/v=c)->l.length % 2=0:=by
 intro m
 induction m using Nat.strongRecOn with
 |_ m o=>
  intro l k f h;cases l with
  |nil=>rfl
  |cons w t=>
   obtain⟨c,j,n,x,y⟩:=h w SB;have g:c∈t:=(SU.mp j).resolve_left n;rw[TW] at f;have lt:=List.length_erase_of_mem g;have p:=Zj g;rw[SN] at k⊢;have:=o (t.erase c).length (by omega) (t.erase c) rfl (f.2.erase c) λv hv=>by
    have d:=(f.2.mem_erase_iff).mp hv;obtain⟨i,B,q,s,u⟩:=h v (Sx _ d.2);have vw:v≠w:=λe=>f.1 (e▸d.2)
    have A:i≠w:=λe=>by
     grind
    have z:i≠c:=λe=>by
     grind
    grind
   grind
def zs(l:List Nat):List Int:=l.map Int.ofNat
def uz(k:List Int):List Nat:=k.map Int.toNat
theorem fF(l:List Nat):uz (zs l)=l:=by
 unfold uz zs;rw[SJ];exact(TC λa _=>rfl).trans (jbL l)
def eI(n:Nat)(r x:List Nat)(k:List Int):List (List Int):=(sp n (bR r x (uz k))).map λp=>zs (bU (uz k) p.1 p.2)
def bK(n:Nat)(r x:List Nat)(K:List (List Int)):List (List Int):=K.flatMap (eI n r x)
def cP(n:Nat)(r x:List Nat)(K:List (List Int)):List (List Int):=fC (bK n r x K)
def lF(n:Nat)(K:List (List Int)):Prop:= ∀k∈K,∃o,Ord n o/\k=zs o
theorem L4(O:Ord n o):lF n (eI n r x (zs o)):=λk a=>by
 unfold eI at a;rw[fF] at a;obtain⟨p,c,rfl⟩:=SM.mp a;obtain⟨b,d,_⟩:=fq.mp c;exact⟨_,O.exx b d,rfl⟩
theorem EJ{K:List (List Int)}(h:lF n K):lF n (bK n r x K):=λk a=>by
 obtain⟨y,b,a⟩:=Vg.mp a;obtain⟨o,O,rfl⟩:=h y b;exact L4 O k a
theorem hH {ks:List (List Int)}:z∈fC ks↔ks.count z % 2=1:=by
 grind[fC,bw,uL]
theorem DH(ks:List (List Int)):(fC ks).Nodup:=by
 grind[fC,bw,GF]
theorem Io{K:List (List Int)}(h:lF n K):lF n (cP n r x K):=λk b=>by
 have c:(bK n r x K).count k % 2=1:=hH.mp b;have a:0<(bK n r x K).count k:=by omega
 exact EJ h k (jal.mp a)
theorem w8 {α:Type}(f:α->Nat): ∀l:List α,(∀a∈l,f a % 2=0)->(l.map f).sum % 2=0
 | [],_=>rfl
 |a::l,h=>by
  rw[So,VJ];have:=w8 f l λb c=>h b (Sx _ c)
  have:=h a SB;lia
theorem M6(n:Nat)(r x o:List Nat):(D9 n r x o).Nodup:=Lz (B7 _ _) λ_=>B7 _ _
theorem MV(n:Nat)(r x o:List Nat):(eI n r x (zs o)).flatMap (eI n r x)=(D9 n r x o).map λw=>zs (wc o w):=by
 unfold eI D9;rw[fF,jbt,Uo];congr 1;funext p;rw[fF,SJ];rfl
theorem KM {r x o:List Nat}(O:Ord 2 o)(R:Ord 2 r)(X:Ord 2 x)(f: ∀c,c<2->r.getD c 0≠x.getD c 0):sp 2 (bR r x o)=[]:=by
 cases e:sp 2 (bR r x o) with
 |nil=>rfl
 |cons p l=>
  exfalso;obtain⟨a,b,d,st⟩:=fq.mp (show p∈sp 2 (bR r x o) by nofun);unfold bR at st;rw[TL] at st;have t:=(hJ O R X).mp st.2 p.1 a;have no:o.getD p.1 0≠o.getD p.2 0:=λw=>d (O.inj a b w)
  have g:=gX 2 (by simp) p.1 a p.2 b d;have i2:=gX 2 (by simp) _ (O.get a) _ (O.get b) no;have i:=R.get a;have k:=X.get a;have j:=O.get a;have h:=f _ a;unfold iU at t;rw[g] at t;have:o.getD p.1 0=r.getD p.1 0\/o.getD p.1 0=x.getD p.1 0:=by grind
  lia
theorem HU{r x o:List Nat}(e:2<=n)(j:n<=5)(O:Ord n o)(R:Ord n r)(X:Ord n x)(f: ∀c,c<n->r.getD c 0≠x.getD c 0)(z:List Int):((eI n r x (zs o)).flatMap (eI n r x)).count z % 2=0:=by
 rw[MV]
 by_cases h:n=2
 ·grind[D9,KM]
 ·have:((D9 n r x o).map λw=>zs (wc o w)).count z=((D9 n r x o).filter λw=>zs (wc o w)==z).length:=by
   rw[jcZ,List.countP_map,List.countP_eq_length_filter];rfl
  rw[this];refine Dq (R:=λv w=>NM n o v w) (λa b h=>⟨λx y f m=>(h.1 x y f m).symm,h.2.symm⟩) _ _ rfl ((M6 n r x o).filter _) λw hw=>?_
  obtain⟨i,p⟩:=S4.mp hw;obtain⟨l,g,e,d,k⟩:=Px ⋯ j O R X i;exact⟨l,S4.mpr ⟨g,by rw[d.2];exact p⟩,e,d,λv hv=>k v (S4.mp hv).1⟩
theorem Ic{r x:List Nat}(g:2<=n)(f:n<=5)(R:Ord n r)(X:Ord n x)(h: ∀c,c<n->r.getD c 0≠x.getD c 0){K:List (List Int)}(d:lF n K):cP n r x (cP n r x K)=[]:=by
 have i: ∀z,(bK n r x (cP n r x K)).count z % 2=0:=λz=>by
  have a:=Kv (λy=>(eI n r x y).count z) (bK n r x K);show((fC (bK n r x K)).flatMap (eI n r x)).count z % 2=0;rw[dP,a,<-dP];show((K.flatMap (eI n r x)).flatMap (eI n r x)).count z % 2=0;rw[List.flatMap_assoc,dP];refine w8 _ _ λk b=>?_
  obtain⟨o,O,rfl⟩:=d k b;grind[HU]
 have: ∀z,z∉cP n r x (cP n r x K):=λz hz=>by
  have e:(bK n r x (cP n r x K)).count z % 2=1:=hH.mp hz;nofun
 exact List.eq_nil_iff_forall_not_mem.mpr this
theorem Ca{K L:List (List Int)}(p:K.Perm L):(bK n r x K).Perm (bK n r x L):=p.flatMap_right _
theorem nW(f:List Int->Nat)(p:List Int->Bool): ∀l:List (List Int),(l.map f).sum=((l.filter p).map f).sum+((l.filter λk=> !p k).map f).sum
 | []=>rfl
 |a::l=>by
  have b:=nW f p l;grind
theorem Jr(f:List Int->Nat){A B:List (List Int)}(b:A.Nodup)(a:B.Nodup):((h8 A B).map f).sum % 2=((A.map f).sum+(B.map f).sum) % 2:=by
 have c:=nW f (λk=>decide (k∉B)) A;have d:=nW f (λk=>decide (k∉A)) B;have p:(A.filter λk=> !χ (k∉B)).Perm (B.filter λk=> !χ (k∉A)):=by
  refine(Tg (b.filter _) (a.filter _)).mpr λk=>?_
  simp[and_comm]
 grind[h8]
theorem Aq(n:Nat)(r x:List Nat)(K:List (List Int)):(cP n r x K).Nodup:=DH _
theorem ID{A B:List (List Int)}(b:A.Nodup)(a:B.Nodup):cP n r x (bz aT (h8 A B))=bz aT (h8 (cP n r x A) (cP n r x B)):=by
 symm;refine ul (pH (Aq n r x A) (Aq n r x B)) λz=>?_
 have c:(bK n r x (bz aT (h8 A B))).count z % 2=((bK n r x A).count z+(bK n r x B).count z) % 2:=by
  rw[(Ca (bw (lt:=aT) (h8 A B))).count_eq];unfold bK;rw[dP,dP,dP];exact Jr _ b a
 rw[c,lr];have d:z∈cP n r x A↔(bK n r x A).count z % 2=1:=hH;have e:z∈cP n r x B↔(bK n r x B).count z % 2=1:=hH;grind
abbrev Cr:=List (List Int)
def lq(a b:List Int):Prop:=aT b a=θ
theorem BD(h:lq a b)(k:lq b c):lq a c:=va h k
theorem lU(h:lq a b)(k:lq b a):a=b:=wU k h
theorem LC(a b:List Int):lq a b\/lq b a:=by
 unfold lq;grind[k7]
theorem iC(a:List Int):lq a a:=(LC a a).elim id id
def Top(v:Cr)(t:List Int):Prop:=t∈v/\ ∀z∈v,lq z t
theorem Top.uniq(h:Top v t)(k:Top v t'):t=t':=lU (k.2 t h.1) (h.2 t' k.1)
theorem Er: ∀l:Cr,l≠[]-> ∃t,Top l t
 | [a],_=>⟨a,by simp,λz hz=>by rw[SI] at hz;subst hz;exact iC _⟩
 |a::b::l,_=>by
  obtain⟨t,c,d⟩:=Er (b::l) (by simp);rcases LC a t with h|h
  ·refine⟨t,Sx _ c,λz hz=>?_⟩;grind
  ·refine⟨a,SB,λz hz=>?_⟩;rcases SU.mp hz with rfl|hz
   ·exact iC _
   ·exact BD (d z hz) h
def Up(v:Cr):Prop:=v.Pairwise lq/\v.Nodup
theorem d7: ∀ {v:Cr} {t:List Int},v.Pairwise lq->v.getLast?=p5 t->Top v t
 | [],t,_,h=>by nofun
 | [a],t,_,h=>by cases h;exact⟨by simp,λz hz=>by rw[SI] at hz;grind[iC]⟩
 |a::b::v,t,p,h=>by
  rw[List.getLast?_cons_cons] at h;obtain⟨c,d⟩:=d7 (US.mp p).2 h;refine⟨Sx _ c,λz hz=>?_⟩;rcases SU.mp hz with rfl|hz
  ·exact(US.mp p).1 t c
  ·exact d z hz
theorem fS {v:Cr}(h:v.getLast?=ξ):v=[]:=List.getLast?_eq_none_iff.mp h
def sq(A B:Cr):Cr:=bz aT (h8 A B)
theorem gb{z:List Int}:z∈sq A B↔(z∈A/\z∉B)\/(z∈B/\z∉A):=by
 grind[sq,bw,lr]
theorem K7 {A B:Cr}(b:A.Nodup)(a:B.Nodup):Up (sq A B):=⟨ib wz _,(bw (lt:=aT) _).nodup_iff.mpr (pH b a)⟩
theorem Ma(d:Up A)(c:Up B)(h: ∀z,z∈A↔z∈B):A=B:=
 YH (λa b _ _ e f=>lU e f) d.1 c.1 ((Tg d.2 c.2).mpr h)
abbrev Ld:=List (List Int×Cr×Cr)
def vl:Ld->(List Int->Bool)->List Int->Nat
 | [],_,_=>0
 |p::L,f,z=>(if(f p.1&&χ (z∈p.2.2))=ζ then 1 else 0)+vl L f z
def ei(L:Ld)(v:Cr):Prop:= ∃f,∀z,z∈v↔vl L f z % 2=1
theorem Ei(f g:List Int->Bool)(z:List Int): ∀L:Ld,vl L (λk=>f k !=g k) z % 2=(vl L f z+vl L g z) % 2
 | []=>rfl
 |p::L=>by
  have d:=Ei f g z L;show((if((f p.1 !=g p.1)&&χ (z∈p.2.2))=ζ then 1 else 0)+vl L (λk=>f k !=g k) z) % 2=((if(f p.1&&χ (z∈p.2.2))=ζ then 1 else 0)+vl L f z+((if(g p.1&&χ (z∈p.2.2))=ζ then 1 else 0)+vl L g z)) % 2;have k: ∀a b c:Bool,(if((a !=b)&&c)=ζ then 1 else 0) % 2=((if(a&&c)=ζ then 1 else 0)+(if(b&&c)=ζ then 1 else 0)) % 2:=by decide
  rw[ZB,k,d,<-ZB,Nat.add_add_add_comm]
theorem l8 {f:List Int->Bool}{z:List Int}: ∀ {L:Ld},(∀p∈L,¬(f p.1=ζ/\z∈p.2.2))->vl L f z=0
 | [],_=>rfl
 |p::L,h=>by
  rw[vl,if_neg (by rw[TL,zk];exact h p SB),l8 (L:=L) λq a=>h q (Sx _ a)]
theorem yX {f:List Int->Bool}{z:List Int}{p:List Int×Cr×Cr}: ∀ {L:Ld},(L.map (·.1)).Nodup->p∈L->(f p.1=ζ/\z∈p.2.2)->(∀q∈L,q.1≠p.1-> ¬(f q.1=ζ/\z∈q.2.2))->vl L f z=1
 | [],_,a,_,_=>by nofun
 |q::L,c,a,g,d=>by
  rw[So,TW] at c;rcases SU.mp a with e|a
  ·subst e;rw[vl,if_pos (by nofun),l8 (f:=f) (z:=z) (L:=L) λq b=>d q (Sx _ b) λe=>c.1 (e▸S6 b)]
  ·have h:q.1≠p.1:=λe=>c.1 (e▸S6 a)
   rw[vl,if_neg (by rw[TL,zk];exact d q SB h),yX (f:=f) (z:=z) c.2 a g λq b=>d q (Sx _ b)]
theorem vQ {L:Ld}(b:(L.map (·.1)).Nodup){p q:List Int×Cr×Cr}(f:p∈L)(d:q∈L)(e:p.1=q.1):p=q:=by
 induction L with
 |nil=>nofun
 |cons a L c=>
  rw[So,TW] at b;grind[S6]
theorem HB(f:List Int->Bool)(z:List Int): ∀(L M:Ld),vl (L++M) f z=vl L f z+vl M f z
 | [],M=>by simp[vl]
 |p::L,M=>by simp[vl,HB,jdN]
theorem Lr {f g:List Int->Bool}: ∀ {L:Ld},(∀p∈L,f p.1=g p.1)->vl L f z=vl L g z
 | [],_=>rfl
 |p::L,h=>by rw[vl,vl,h p SB,Lr λq a=>h q (Sx _ a)]
theorem ei.nil(L:Ld):ei L []:=⟨λ_=>θ,λz=>by simp[l8]⟩
theorem ei.add(hv:ei L v)(hw:ei L w)(h: ∀z,z∈u↔(z∈v/\z∉w)\/(z∈w/\z∉v)):ei L u:=by
 obtain⟨f,b⟩:=hv;obtain⟨g,a⟩:=hw;refine⟨λk=>f k !=g k,λz=>?_⟩;rw[Ei,h z,b z,a z];lia
theorem ei.ext(hv:ei L v)(h: ∀z,z∈u↔z∈v):ei L u:=by
 obtain⟨f,a⟩:=hv;exact⟨f,λz=>by rw[h,a]⟩
theorem ei.mem {L:Ld}(a:(L.map (·.1)).Nodup){p:List Int×Cr×Cr}(b:p∈L):ei L p.2.2:=by
 refine⟨λk=>decide (k=p.1),λz=>?_⟩
 by_cases hz:z∈p.2.2
 ·rw[yX a b ⟨by simp,hz⟩ λq _ d h=>d (by simpa using h.1)];simp[hz]
 ·rw[l8 λq c h=>?_]
  ·simp[hz]
  ·have e:q.1=p.1:=by simpa using h.1
   have:q=p:=vQ a c b e;nofun
theorem ei.more {L:Ld}{t:List Int}{d:Cr×Cr}(hv:ei L v)(b:t∉L.map (·.1)):ei (L++[(t,d)]) v:=by
 obtain⟨f,a⟩:=hv;refine⟨λk=>f k&& !χ (k=t),λz=>?_⟩;rw[a z];have:vl (L++[(t,d)]) (λk=>f k&& !χ (k=t)) z=vl L f z:=by
  rw[HB,Lr (g:=f) λp c=>?_]
  ·show _+((if((f t&& !χ (t=t))&&χ (z∈d.2))=ζ then 1 else 0)+0)=_;simp
  ·grind[S6]
 nofun
theorem ei.top {L:Ld}(u:(L.map (·.1)).Nodup)(ok: ∀p∈L,Top p.2.2 p.1)(h:ei L v)(hv:v≠[]): ∃t,t∈L.map (·.1)/\Top v t:=by
 obtain⟨f,i⟩:=h
 let ks:=(L.map (·.1)).filter f
 have c: ∀z∈v,∃p∈L,f p.1=ζ/\z∈p.2.2:=λz hz=>Ua λno=>by
  have:=(i z).mp hz;rw[l8 λp e q=>no ⟨p,e,q⟩] at this;nofun
 obtain⟨o,n⟩:=List.exists_mem_of_ne_nil v hv;obtain⟨B,A,k,_⟩:=c o n;have l:ks≠[]:=jam (S4.mpr ⟨S6 A,k⟩);obtain⟨t,y,g⟩:=Er ks l;obtain⟨j,s⟩:=S4.mp y;obtain⟨p,e,rfl⟩:=SM.mp j;have m:=ok p e;refine⟨p.1,j,(i _).mpr ?_,λz hz=>?_⟩
 ·rw[yX u e ⟨s,m.1⟩ λq d w h=>?_];have a:=(ok q d).2 _ h.2;have b:=g q.1 (S4.mpr ⟨S6 d,h.1⟩);exact w (lU b a)
 ·obtain⟨q,d,r,x⟩:=c z hz;exact BD ((ok q d).2 z x) (g q.1 (S4.mpr ⟨S6 d,r⟩))
section
theorem qW(K:Cr):Up (cP n r x K):=⟨ib wz _,Aq n r x K⟩
theorem t5 {K:Cr}:z∈cP n r x K↔(bK n r x K).count z % 2=1:=hH
theorem BU {u z:List Int}{K:Cr}:z∈cP n r x (u::K)↔(z∈cP n r x [u]/\z∉cP n r x K)\/(z∈cP n r x K/\z∉cP n r x [u]):=by
 grind[t5,bK]
theorem Ih {K a:Cr}(p:K.Perm a):cP n r x K=cP n r x a:=Ma (qW _) (qW _) λz=>by rw[t5,t5,(Ca p).count_eq]
theorem MY {A B:Cr}(b:A.Nodup)(a:B.Nodup):cP n r x (sq A B)=sq (cP n r x A) (cP n r x B):=ID b a
theorem BR: ∀ {K:Cr},(∀u∈K,ei L (cP n r x [u]))->ei L (cP n r x K)
 | [],_=>ei.nil L
 |u::K,h=>ei.add (h u SB) (BR λv hv=>h v (Sx _ hv)) λz=>BU
end
def qf(L:Ld)(t:List Int):Option (Cr×Cr):=(L.find? λp=>decide (p.1=t)).map (·.2)
theorem fI(h:qf L t=p5 d):(t,d)∈L:=by
 unfold qf at h;obtain⟨p,a,rfl⟩:=SO.mp h;grind[WA]
theorem pF {L:Ld}(h:qf L t=ξ):t∉L.map (·.1):=λq=>by
 obtain⟨p,a,rfl⟩:=SM.mp q;unfold qf at h;grind[V5]
def xF(L:Ld):Nat->Cr×Cr->Cr×Cr
 |0,p=>p
 |f+1,p=>match p.2.getLast? with
  |none=>p
  |some t=>match qf L t with
   |none=>p
   |some d=>xF L f (sq p.1 d.1,sq p.2 d.2)
section
variable {n:Nat}{r x:List Nat}{S:Cr}{hm:List Int->Int×Int}{dn:Int×Int->Int×Int}
structure LOk(n:Nat)(r x:List Nat)(hm:List Int->Int×Int)(dn:Int×Int->Int×Int)(P:Cr)(L:Ld):Prop where
 nd:(L.map (·.1)).Nodup
 top: ∀p∈L,Top p.2.2 p.1
 up1: ∀p∈L,Up p.2.1
 up2: ∀p∈L,Up p.2.2
 sub: ∀p∈L,∀z∈p.2.1,z∈P
 bd: ∀p∈L,cP n r x p.2.1=p.2.2
 hh: ∀p∈L,∃h,(∀z∈p.2.1,hm z=h)/\ ∀z∈p.2.2,hm z=dn h
structure RI(n:Nat)(r x:List Nat)(hm:List Int->Int×Int)(dn:Int×Int->Int×Int)(P:Cr)(L:Ld)(s:List Int)(p:Cr×Cr):Prop where
 u1:Up p.1
 u2:Up p.2
 bd:cP n r x p.1=p.2
 me:s∈p.1
 sb: ∀z∈p.1,z=s\/z∈P
 h1: ∀z∈p.1,hm z=hm s
 h2: ∀z∈p.2,hm z=dn (hm s)
 sp: ∃w,ei L w/\ ∀z,z∈w↔(z∈p.2/\z∉cP n r x [s])\/(z∈cP n r x [s]/\z∉p.2)
theorem RI.step{s t:List Int}{p d:Cr×Cr}(l: ∀a b,dn a=dn b->a=b)(o:LOk n r x hm dn P L)(j:s∉P)(R:RI n r x hm dn P L s p)(k:t∈p.2)(c:(t,d)∈L):RI n r x hm dn P L s (sq p.1 d.1,sq p.2 d.2):=by
 have m:=o.top _ c;obtain⟨h,i,f⟩:=o.hh _ c;have e:h=hm s:=l _ _ ((f t m.1).symm.trans (R.h2 t k));subst e;obtain⟨w,g,u⟩:=R.sp;refine⟨K7 R.u1.2 (o.up1 _ c).2,K7 R.u2.2 (o.up2 _ c).2,?_,gb.mpr (.inl ⟨R.me,λq=>j (o.sub _ c _ q)⟩),λz hz=>?_,λz hz=>?_,λz hz=>?_,sq w d.2,g.add (ei.mem o.nd c) λz=>gb,λz=>?_⟩
 ·show cP n r x (sq p.1 d.1)=sq p.2 d.2;rw[MY R.u1.2 (o.up1 _ c).2,R.bd,o.bd _ c]
 ·rcases gb.mp hz with q|q
  ·exact R.sb z q.1
  ·exact .inr (o.sub _ c z q.1)
 ·rcases gb.mp hz with q|q
  ·exact R.h1 z q.1
  ·exact i z q.1
 ·rcases gb.mp hz with q|q
  ·exact R.h2 z q.1
  ·exact f z q.1
 ·grind[gb]
def Lk(S:Cr)(t:List Int):Nat:=(S.filter λz=> !aT t z).length
theorem GN(h:t∈S):0<Lk S t:=Zj (S4.mpr ⟨h,by rw[show aT t t=θ from iC t];rfl⟩)
theorem LH(h:t∈S)(b:lq t' t)(c:t'≠t):Lk S t'<Lk S t:=by
 unfold Lk;have a:(S.filter λz=> !aT t' z).Sublist (S.filter λz=> !aT t z):=by
  have e:(S.filter λz=> !aT t' z)=(S.filter λz=> !aT t z).filter λz=> !aT t' z:=by
   rw[List.filter_filter];refine jaZ λz _=>?_
   cases q:aT t' z with
   |true=>rfl
   |false=>rw[show aT t z=θ from BD q b];rfl
  rw[e];exact VM
 refine jai a.length_le λe=>?_
 have:=a.eq_of_length e;have m:t∈S.filter λz=> !aT t z:=S4.mpr ⟨h,by rw[show aT t t=θ from iC t];rfl⟩
 rw[<-this] at m;have:=(S4.mp m).2;have q:lq t t':=by simpa [lq] using this
 exact c (lU b q)
theorem ww{L:Ld}(m: ∀a b,dn a=dn b->a=b)(o:LOk n r x hm dn P L)(l:s∉P): ∀(f:Nat) (p:Cr×Cr),RI n r x hm dn P L s p->(∀z∈p.2,z∈S)->(∀q∈L,∀z∈q.2.2,z∈S)->(∀t,p.2.getLast?=p5 t->Lk S t<=f)->
 RI n r x hm dn P L s (xF L f p)/\((xF L f p).2=[]\/ ∃t,(xF L f p).2.getLast?=p5 t/\t∉L.map (·.1))
 |0,p,R,g,_,w=>by
  refine⟨R,.inl ?_⟩;show p.2=[];cases e:p.2.getLast? with
  |none=>exact fS e
  |some t=>have:=GN (g t (d7 R.u2.1 e).1);nofun
 |f+1,p,R,g,j,w=>by
  unfold xF;cases e:p.2.getLast? with
  |none=>exact⟨R,.inl (fS e)⟩
  |some t=>
   dsimp only;cases k:qf L t with
   |none=>exact⟨R,.inr ⟨t,e,pF k⟩⟩
   |some d=>
    have i:=fI k;have h:=d7 R.u2.1 e;have v:=R.step m o l h.1 i;refine ww m o l f _ v (λz hz=>?_) j λt' B=>?_
    ·rcases gb.mp hz with q|q
     ·exact g z q.1
     ·exact j _ i z q.1
    ·have c:=d7 v.u2.1 B;have u:=o.top _ i;have A:t'≠t:=λq=>by
      subst q;rcases gb.mp c.1 with q|q
      ·exact q.2 u.1
      ·exact q.2 h.1
     have y:lq t' t:=by
      rcases gb.mp c.1 with q|q
      ·exact h.2 _ q.1
      ·exact u.2 _ q.1
     have:=LH (g t h.1) y A;have:=w t e;lia
end
abbrev j6:=List (List Int×Cr)
def FW(n:Nat)(r x:List Nat)(F:Nat)(st:j6×Ld)(s:List Int):j6×Ld:=
 match (xF st.2 F ([s],cP n r x [s])).2.getLast? with
 |none=>(st.1++[(s,(xF st.2 F ([s],cP n r x [s])).1)],st.2)
 |some t=>(st.1,st.2++[(t,xF st.2 F ([s],cP n r x [s]))])
section
variable {n:Nat}{r x:List Nat}{S:Cr}{hm:List Int->Int×Int}{dn:Int×Int->Int×Int}
structure Wd(n:Nat)(r x:List Nat)(S:Cr)(hm:List Int->Int×Int)(dn:Int×Int->Int×Int):Prop where
 up:Up S
 dj: ∀a b,dn a=dn b->a=b
 bs: ∀K:Cr,(∀z∈K,z∈S)-> ∀z∈cP n r x K,z∈S
 bb: ∀K:Cr,(∀z∈K,z∈S)->cP n r x (cP n r x K)=[]
 bh: ∀u∈S,∀z∈cP n r x [u],hm z=dn (hm u)
structure EI(n:Nat)(r x:List Nat)(S:Cr)(hm:List Int->Int×Int)(dn:Int×Int->Int×Int)(P:Cr)(C:j6)(L:Ld):Prop where
 lo:LOk n r x hm dn P L
 le: ∀q∈L,∀z∈q.2.2,z∈S
 c1: ∀p∈C,Top p.2 p.1
 c2: ∀p∈C,Up p.2
 c3: ∀p∈C,∀z∈p.2,z∈P
 c4: ∀p∈C,cP n r x p.2=[]
 c5: ∀p∈C,∀z∈p.2,hm z=hm p.1
 cs:(C.map (·.1)).Sublist P
 sp: ∀u∈P,ei L (cP n r x [u])
 zz: ∀e:Cr,Up e->(∀z∈e,z∈S)->cP n r x e=[]-> ∀t,Top e t->t∈P->t∈C.map (·.1)
 ln:P.length=C.length+L.length
theorem EI.start:EI n r x S hm dn [] [] []:=
 ⟨⟨Wq,nofun,nofun,nofun,nofun,nofun,nofun⟩,nofun,nofun,nofun,nofun,nofun,nofun,.slnil,nofun,λ_ _ _ _ _ _ h=>(nomatch h),rfl⟩
theorem z6(s:List Int):Up [s]:=⟨YY _ _,by simp⟩
theorem EI.step(W:Wd n r x S hm dn){P T:Cr}(H:S=P++s::T)(hF:S.length<=F)(E:EI n r x S hm dn P C L):EI n r x S hm dn (P++[s]) (FW n r x F (C,L) s).1 (FW n r x F (C,L) s).2:=by
 have M:=W.up.1;have N:=W.up.2;rw[H] at M N;rw[Wm] at M;rw[Th] at N;have V:s∈S:=by rw[H];simp
 have PS: ∀z∈P,z∈S:=λz hz=>by grind
 have X:s∉P:=λq=>N.2.2 s q s SB rfl
 have B: ∀z∈S,lq z s->z≠s->z∈P:=λz hz le ne=>by
  rw[H] at hz;rcases SL.mp hz with q|q
  ·exact q
  ·rcases SU.mp q with q|q
   ·lia
   ·exact absurd (lU le ((US.mp M.2.1).1 z q)) ne
 have Y:RI n r x hm dn P L s ([s],cP n r x [s]):=⟨z6 s,qW _,rfl,by simp,λz hz=>.inl (by nofun),λz hz=>by nofun,λz hz=>W.bh s V z hz,[],ei.nil L,λz=>by simp⟩
 have cl: ∀t,Lk S t<=F:=λt=>Tk (UP _ _) hF
 obtain⟨R,fin⟩:=ww (S:=S) W.dj E.lo X F _ Y (W.bs [s] λz hz=>by grind) E.le λt _=>cl t
 have v: ∀z∈(xF L F ([s],cP n r x [s])).2,z∈S:=by
  rw[<-R.bd];exact W.bs _ λz hz=>(R.sb z hz).elim (λq=>q▸V) (PS z)
 generalize hp:xF L F ([s],cP n r x [s])=p at R fin v;have O:FW n r x F (C,L) s=match p.2.getLast? with
  |none=>(C++[(s,p.1)],L)
  |some t=>(C,L++[(t,p)]):=by grind[FW]
 obtain⟨w,D,w2⟩:=R.sp;have h: ∀z∈p.1,z∈P++[s]:=λz hz=>by
  rw[SL,SI];exact(R.sb z hz).symm
 have tp:Top p.1 s:=⟨R.me,λz hz=>by
  grind[iC]⟩
 have zs': ∀e:Cr,Up e->(∀z∈e,z∈S)->cP n r x e=[]->Top e s->p.2=[]:=λe l i A g=>by
  rcases fin with q|⟨t,Z,q2⟩
  ·exact q
  ·exfalso;have pe:e.Perm (s::e.erase s):=List.perm_cons_erase g.1;have b0:cP n r x (s::e.erase s)=[]:=by grind[Ih]
   have spE:ei L (cP n r x (e.erase s)):=BR λu m=>by
    have f:=(l.2.mem_erase_iff).mp m;exact E.sp u (B u (i u f.2) (g.2 u f.2) f.1)
   have o:ei L (cP n r x [s]):=spE.ext λz=>by
    have:=BU (n:=n) (r:=r) (x:=x) (u:=s) (z:=z) (K:=e.erase s);grind
   have spP:ei L p.2:=D.add o λz=>by
    grind
   have y:=d7 R.u2.1 Z;obtain⟨t',t1,t2⟩:=spP.top E.lo.nd E.lo.top (jam y.1);exact q2 (y.uniq t2▸t1)
 cases e:p.2.getLast? with
 |none=>
  have pn:=fS e;rw[O,e];dsimp only;have o:ei L (cP n r x [s]):=D.ext λz=>by nofun
  refine⟨⟨E.lo.nd,E.lo.top,E.lo.up1,E.lo.up2,λq c z hz=>Tq _ (E.lo.sub q c z hz),E.lo.bd,E.lo.hh⟩,E.le,λq c=>?_,λq c=>?_,λq c=>?_,λq c=>?_,λq c=>?_,?_,λu m=>?_,λJ l i A t g I=>?_,?_⟩
  ·rcases SL.mp c with k|k
   ·exact E.c1 q k
   nofun
  ·rcases SL.mp c with k|k
   ·exact E.c2 q k
   ·rw[SI] at k;subst k;exact R.u1
  ·rcases SL.mp c with k|k
   ·exact λz hz=>Tq _ (E.c3 q k z hz)
   nofun
  ·rcases SL.mp c with k|k
   ·exact E.c4 q k
   ·rw[SI] at k;subst k;exact R.bd.trans pn
  ·rcases SL.mp c with k|k
   ·exact E.c5 q k
   ·rw[SI] at k;subst k;exact R.h1
  ·rw[SZ];exact E.cs.append (jia _)
  ·rcases SL.mp m with k|k
   ·exact E.sp u k
   nofun
  ·rw[SZ,SL];rcases SL.mp I with k|k
   ·exact .inl (E.zz J l i A t g k)
   nofun
  ·rw[SG,SG,E.ln];simp;lia
 |some t=>
  have y:=d7 R.u2.1 e;have U:t∉L.map (·.1):=by
   grind
  rw[O,e];dsimp only;have j:((L++[(t,p)]).map (·.1)).Nodup:=by
   rw[SZ,Th];exact⟨E.lo.nd,by simp,λa ha b hb=>by
    grind⟩
  have G:(t,p)∈L++[(t,p)]:=by simp
  have d: ∀ {Q:(List Int×Cr×Cr)->Prop},(∀q∈L,Q q)->Q (t,p)-> ∀q∈L++[(t,p)],Q q:=λa b q c=>by
   grind
  refine⟨⟨j,d E.lo.top y,d E.lo.up1 R.u1,d E.lo.up2 R.u2,d (λq c z hz=>Tq _ (E.lo.sub q c z hz)) h,d E.lo.bd R.bd,d E.lo.hh ⟨hm s,R.h1,R.h2⟩⟩,d E.le v,E.c1,E.c2,λq c z hz=>Tq _ (E.c3 q c z hz),E.c4,E.c5,E.cs.trans (List.sublist_append_left _ _),λu m=>?_,λJ l i A t' g I=>?_,?_⟩
  ·rcases SL.mp m with k|k
   ·exact(E.sp u k).more U
   ·rw[SI] at k;subst k;exact(D.more U).add (ei.mem j G) λz=>by
     grind
  ·rcases SL.mp I with k|k
   ·exact E.zz J l i A t' g k
   grind
  ·rw[SG,SG,E.ln];rfl
theorem EI.all(W:Wd n r x S hm dn)(a:S.length<=F): ∀(T P:Cr) (st:j6×Ld),S=P++T->EI n r x S hm dn P st.1 st.2->EI n r x S hm dn S (T.foldl (FW n r x F) st).1 (T.foldl (FW n r x F) st).2
 | [],P,st,h,E=>by nofun
 |s::T,P,st,h,E=>by
  rw[V7];exact EI.all W a T (P++[s]) _ (by nofun) (E.step W h a)
end
def ip(A B:Cr):Nat:=(A.filter λk=>decide (k∈B)).length % 2
theorem Ef(A:Cr)(s:List Int)(B:Cr):ip (A++[s]) B=(ip A B+if s∈B then 1 else 0) % 2:=by
 unfold ip;rw[Yh,SG]
 by_cases h:s∈B
 ·nofun
 nofun
theorem EV(h: ∀z∈A,z∉B):ip A B=0:=by
 unfold ip;rw[Zi.mpr λz hz=>by simpa using h z hz];rfl
def Eb(C:j6)(t:List Int):Option Cr:=(C.find? λp=>decide (p.1=t)).map (·.2)
theorem iz {C:j6}(h:t∈C.map (·.1)): ∃c,Eb C t=p5 c/\(t,c)∈C:=by
 unfold Eb;cases e:C.find? λp=>decide (p.1=t) with
 |none=>
  obtain⟨p,a,rfl⟩:=SM.mp h;exact absurd (Z7.mp e p a) (by simp)
 |some p=>
  grind
def jM(C:j6)(L:Ld)(s:List Int):Cr:=match qf L s with
 |some d=>d.2
 |none=>(Eb C s).getD []
def Ee(C:j6)(L:Ld)(s0:List Int):Cr->Cr->Cr
 | [],a=>a
 |s::T,a=>if aT s0 s=ζ/\s∈C.map (·.1)/\ip a (jM C L s)=1 then Ee C L s0 T (a++[s]) else Ee C L s0 T a
section
variable {n:Nat}{r x:List Nat}{S:Cr}{hm:List Int->Int×Int}{C:j6}{L:Ld}
theorem nP(E:EI n r x S hm dn S C L)(h:s∈C.map (·.1)):Top (jM C L s) s/\ ∀z∈jM C L s,hm z=hm s:=by
 unfold jM;cases e:qf L s with
 |some d=>
  have m:=fI e;have t:=E.lo.top _ m;obtain⟨h,_,k⟩:=E.lo.hh _ m;exact⟨t,λz hz=>(k z hz).trans (k s t.1).symm⟩
 |none=>
  obtain⟨c,b,a⟩:=iz h;rw[b];exact⟨E.c1 _ a,E.c5 _ a⟩
structure RW(C:j6)(L:Ld)(s0:List Int)(Q row:Cr):Prop where
 up:Up row
 me:s0∈row
 ge: ∀z∈row,lq s0 z
 sb: ∀z∈row,z=s0\/z∈Q
 ev: ∀s∈Q,s∈C.map (·.1)->s≠s0->ip row (jM C L s)=0
 od:ip row (jM C L s0)=1
theorem He(h:aT a b=ζ):lq a b/\a≠b:=⟨k7 h,λe=>by subst e;rw[k7 h] at h;nofun⟩
theorem LL(h: ¬aT a b=ζ):lq b a:=by unfold lq;simpa using h
theorem RW.all(E:EI n r x S hm dn S C L)(h:s0∈C.map (·.1)): ∀(T Q d:Cr),Up (Q++T)->RW C L s0 Q d->RW C L s0 (Q++T) (Ee C L s0 T d)
 | [],Q,d,_,R=>by rw[TZ];exact R
 |s::T,Q,d,u,R=>by
  have u':=u;have y:Q++s::T=(Q++[s])++T:=by simp
  rw[y] at u'⊢;have w:=(Wm.mp u.1)
  have F:=(Th.mp u.2)
  have v:s∉Q:=λq=>F.2.2 s q s SB rfl
  have t: ∀z∈Q,lq z s:=λz hz=>w.2.2 z hz s SB
  unfold Ee
  by_cases c:aT s0 s=ζ/\s∈C.map (·.1)/\ip d (jM C L s)=1
  ·rw[if_pos c];obtain⟨j,D,A⟩:=c;obtain⟨o,p⟩:=He j;have H:s∉d:=λq=>(R.sb s q).elim (λe=>p e.symm) v
   refine RW.all E h T (Q++[s]) _ u' ⟨⟨?_,?_⟩,Tq _ R.me,λz hz=>?_,λz hz=>?_,λz hz f g=>?_,?_⟩
   ·rw[Wm];refine⟨R.up.1,YY _ _,λa l b i=>?_⟩;rw[SI] at i;subst i;rcases R.sb a l with rfl|q
    ·exact o
    ·exact t a q
   ·rw[Th];refine⟨R.up.2,by grind,λa l b i e=>?_⟩;grind
   ·rcases SL.mp hz with q|q
    ·exact R.ge z q
    ·rw[SI] at q;lia
   ·rw[SL];rcases SL.mp hz with q|q
    ·exact(R.sb z q).imp id .inl
    ·exact .inr (.inr q)
   ·rw[Ef];rcases SL.mp hz with q|q
    ·have G:=(nP E f).1;rw[R.ev z q f g,if_neg λm=>?_];have:=lU (t z q) (G.2 s m);exact v (this▸q)
    ·rw[SI] at q;subst q;rw[A,if_pos (nP E D).1.1]
   ·rw[Ef,R.od,if_neg λm=>?_];exact p (lU o ((nP E h).1.2 s m))
  ·rw[if_neg c];refine RW.all E h T (Q++[s]) _ u' ⟨R.up,R.me,R.ge,λz hz=>(R.sb z hz).imp id (Tq _),λz hz f g=>?_,R.od⟩;rcases SL.mp hz with q|q
   ·exact R.ev z q f g
   ·rw[SI] at q;subst q
    by_cases j:aT s0 z=ζ
    ·grind[ip]
    ·refine EV λk B m=>?_
     have a:=(nP E f).1.2 k m;have b:=R.ge k B;exact g (lU (LL j) (BD b a))
theorem RW.begin_(E:EI n r x S hm dn S C L)(a:s0∈C.map (·.1)):RW C L s0 [] [s0]:=
 ⟨z6 s0,by simp,λz hz=>by rw[SI] at hz;subst hz;exact iC _,λz hz=>.inl (by simpa using hz),nofun,by
   unfold ip;rw[U6 (by simpa using (nP E a).1.1)];rfl⟩
theorem HE(R B:Cr):ip R B=(R.map λz=>if z∈B then 1 else 0).sum % 2:=by
 unfold ip;congr 1
 induction R with
 |nil=>rfl
 |cons a R b=>
  rw[So,VJ]
  by_cases h:a∈B
  ·rw[U6 (by simpa using h),if_pos h,SN,b];lia
  nofun
theorem JS(R:Cr)(g h:List Int->Nat):(R.map λz=>g z+h z).sum=(R.map g).sum+(R.map h).sum:=by
 induction R with
 |nil=>rfl
 |cons a R b=>rw[So,So,So,VJ,VJ,VJ,b];grind
theorem wJ: ∀R:Cr,(R.map λ_=>0).sum=0
 | []=>rfl
 |a::R=>by simp[wJ]
theorem Lv(R:Cr)(f:List Int->Bool): ∀L:Ld,(∀p∈L,ip R p.2.2=0)->(R.map (vl L f)).sum % 2=0
 | [],_=>by
   simp[vl,wJ]
 |p::L,h=>by
  have d:=Lv R f L λq a=>h q (Sx _ a)
  have e:R.map (vl (p::L) f)=R.map λz=>(if(f p.1&&χ (z∈p.2.2))=ζ then 1 else 0)+vl L f z:=rfl
  rw[e,JS];have c:=h p SB;rw[HE] at c;have b:(R.map λz=>vl L f z)=R.map (vl L f):=rfl;rw[b];cases hf:f p.1 with
  |false=>
   have:(R.map λz=>if(θ&&χ (z∈p.2.2))=ζ then 1 else 0)=R.map λ_=>0:=TC λz _=>by rfl
   rw[this,wJ];nofun
  |true=>
   lia
theorem KF(h: ∀p∈L,ip R p.2.2=0)(s:ei L v):ip R v=0:=by
 obtain⟨f,b⟩:=s;rw[HE];have:=Lv R f L h;have e: ∀R:Cr,(R.map λz=>if z∈v then 1 else 0).sum % 2=(R.map (vl L f)).sum % 2:=λR=>by
  induction R with
  |nil=>rfl
  |cons a R c=>
   rw[So,So,VJ,VJ];have:=b a;grind
 rw[e];omega
structure v3(n:Nat)(r x:List Nat)(S:Cr)(hm:List Int->Int×Int)(C:j6)(L:Ld)(s0:List Int)(R:Cr):Prop where
 up:Up R
 sb: ∀z∈R,z∈S/\hm z=hm s0
 ev: ∀u∈S,ip R (cP n r x [u])=0
 cy: ∀s c,(s,c)∈C->s∉L.map (·.1)->ip R c=if s=s0 then 1 else 0
theorem GQ(W:Wd n r x S hm dn)(E:EI n r x S hm dn S C L)(g:s0∈C.map (·.1))(J:s0∉L.map (·.1)):v3 n r x S hm C L s0 (Ee C L s0 (S.filter λz=>decide (hm z=hm s0)) [s0]):=by
 have l:s0∈S:=E.cs.subset g
 let T:=S.filter λz=>decide (hm z=hm s0)
 have D:Up ([]++T):=⟨W.up.1.sublist VM,W.up.2.filter _⟩
 have R:=RW.all E g T [] _ D (RW.begin_ E g);rw[XE] at R;have v: ∀z,z∈T↔z∈S/\hm z=hm s0:=λz=>by rw[S4,zk]
 have w: ∀z∈Ee C L s0 T [s0],z∈S/\hm z=hm s0:=λz hz=>by
  rcases R.sb z hz with rfl|q
  ·exact⟨l,rfl⟩
  ·exact(v z).mp q
 have j: ∀s∈C.map (·.1),s≠s0->ip (Ee C L s0 T [s0]) (jM C L s)=0:=λs h i=>by
  by_cases q:hm s=hm s0
  ·exact R.ev s ((v s).mpr ⟨E.cs.subset h,q⟩) h i
  ·exact EV λz hz m=>q (((nP E h).2 z m).symm.trans (w z hz).2)
 have B: ∀p∈L,ip (Ee C L s0 T [s0]) p.2.2=0:=λp f=>by
  have t:=E.lo.top p f;have tC:p.1∈C.map (·.1):=E.zz p.2.2 (E.lo.up2 p f) (E.le p f) (by rw[<-E.lo.bd p f];exact W.bb _ (E.lo.sub p f)) p.1 t (E.le p f _ t.1);have i:p.1≠s0:=λe=>J (e▸S6 f)
  have:=j p.1 tC i;have e:jM C L p.1=p.2.2:=by
   unfold jM;cases k:qf L p.1 with
   |none=>exact absurd (S6 f) (pF k)
   |some d=>
    have:=vQ E.lo.nd (fI k) f rfl;rw[<-this]
  rwa [e] at this
 refine⟨R.up,w,λu A=>KF B (E.sp u A),λs c G I=>?_⟩;have F:s∈C.map (·.1):=S6 G;have e:jM C L s=c:=by
  unfold jM;cases k:qf L s with
  |some d=>exact absurd (S6 (fI k)) I
  |none=>
   obtain⟨o,y,K⟩:=iz F;dsimp only;rw[y];show o=c;have H:(C.map (·.1)).Nodup:=E.cs.nodup W.up.2;have: ∀ {C:j6},(C.map (·.1)).Nodup->(s,o)∈C->(s,c)∈C->o=c:=λ{C} H a b=>by
    induction C with
    |nil=>nofun
    |cons p C M=>
     grind[S6]
   grind
 by_cases q:s=s0
 ·subst q;rw[if_pos rfl,<-e];exact R.od
 grind
end
set_option maxHeartbeats 4000000
def kH(n:Nat)(r o:List Nat):Int:=wP n o-LA n r o-K3 n r o+wP n r+1
set_option maxHeartbeats 1000000
theorem yu {α:Type}: ∀(b c:List α),b.Nodup->(∀x∈b,x∈c)->c.length<=b.length->b.Perm c
 | [],c,_,_,h=>by
   nofun
 |a::b,c,g,f,j=>by
  obtain⟨i,e⟩:=TW.mp g;obtain⟨s,t,rfl⟩:=List.append_of_mem (f a (SB ..))
  have d:=yu b (s++t) e (λx k=>by
   grind) (by grind[SN])
  exact(d.cons a).trans YM.symm
def iH(n:Nat):Nat->List (List Nat)
 |0=>[[]]
 |k+1=>(iH n k).flatMap λs=>((R9 n).filter λh=> !χ (h∈s)).map λh=>s++[h]
theorem vC(n:Nat): ∀k,∀s∈iH n k,s.length=k/\s.Nodup/\ ∀v∈s,v<n
 |0,s,h=>by
  rw[SI.mp h];simp
 |k+1,s,h=>by
  obtain⟨t,g,f⟩:=Vg.mp h;obtain⟨v,hv,rfl⟩:=SM.mp f;obtain⟨d,c⟩:=S4.mp hv;obtain⟨j,i2,m⟩:=vC n k t g;rw[SE] at d;have c:v∉t:=by simpa using c
  refine⟨by nofun,?_,λw hw=>?_⟩
  ·rw[Th];exact⟨i2,by simp,λa i b l e=>by nofun⟩
  ·grind
theorem Kx(h:s∈iH n n):Ord n s:=by
 obtain⟨c,a,b⟩:=vC n n s h;exact⟨yu s (R9 n) a (λv hv=>SE.mpr (b v hv)) (by nofun)⟩
theorem Cv{o:List Nat}(O:Ord n o): ∀k,k<=n->o.take k∈iH n k
 |0,_=>by simp[iH]
 |k+1,h=>by
  have d:k<o.length:=by rw[O.len];lia
  have e:o.getD k 0=o[k]:=by nofun
  rw[jcX,Su d];refine Vg.mpr ⟨o.take k,Cv O k ⋯,SM.mpr ⟨o.getD k 0,S4.mpr ⟨SE.mpr (O.get (by grind)),?_⟩,by rw[e];rfl⟩⟩;rw[Uw,decide_eq_false_iff_not];intro b;obtain⟨i,c,a⟩:=VL b;rw[YQ] at c;rw[jaX] at a;have f:o.getD i 0=o[i]'(by grind):=by grind
  have:=O.inj (show i<n by omega) (show k<n by omega) (by nofun);omega
theorem Jk {o:List Nat}{n a b:Nat}(h:o.length=n)(f:a<n)(d:b<n):bU (bU o a b) a b=o:=by
 have j:(bU o a b).length=n:=by grind[bU]
 have k:(bU (bU o a b) a b).length=n:=by grind[bU]
 refine VQ (by nofun) λi c g=>?_
 have e:(bU (bU o a b) a b).getD i 0=o.getD i 0:=by
  rw[fJ (by nofun) (by nofun),fJ (by nofun) (by nofun),fJ (by nofun) (by nofun),fJ (by nofun) (by nofun)];lia
 grind
theorem je: ∀n,n<=5->(iH n n).length<=120:=by decide+kernel
theorem M4: ∀n,n<=5->((iH n n).map zs).Pairwise (λa b=>aT b a=θ):=by decide+kernel
theorem J0: ∀n,n<=5->((iH n n).map zs).Nodup:=by decide+kernel
abbrev d6(n:Nat):Cr:=(iH n n).map zs
theorem ik{k:List Int}:k∈d6 n↔ ∃o,Ord n o/\k=zs o:=by
 constructor
 ·grind[Kx]
 ·rintro⟨o,O,rfl⟩;have m:=Cv O n (Sn _);rw[show o.take n=o from Y0 (by rw[O.len];lia)] at m;grind
theorem dy{K:Cr}:(∀z∈K,z∈d6 n)↔lF n K:=⟨λh k a=>ik.mp (h k a),λh k a=>ik.mpr (h k a)⟩
def jV(n:Nat)(r x:List Nat)(k:List Int):Int×Int:=(kH n r (uz k),kH n x (uz k))
def yO(h:Int×Int):Int×Int:=(h.1-1,h.2-1)
theorem Oh(a b:Int×Int)(h:yO a=yO b):a=b:=by
 grind[yO]
section
variable {n a b:Nat}{r o:List Nat}(O:Ord n o)(R:Ord n r)(ha:a<n)(hb:b<n)(ne:a≠b)
include O R ha hb ne
theorem AN:kH n r o-kH n r (bU o a b)=1-2*q9 n r o a b+2*BG n o a b:=by
 grind[Ml,Mp,Nn,kH]
end
section
variable {n:Nat}{r x:List Nat}(R:Ord n r)(X:Ord n x)
include R X
theorem Gq(O:Ord n o)(f:a<n)(e:b<n)(g:a≠b)(st:bR r x o a b=ζ):kH n r (bU o a b)=kH n r o-1/\kH n x (bU o a b)=kH n x o-1:=by
 obtain⟨l,k,m⟩:=(E6 O R X f e g).mp st;have z: ∀p q:Bool,(p=ζ-> ¬q=ζ)->bi p*bi q=0:=λp q h=>by cases p<;>cases q<;>first|rfl|lia
 have t:BG n o a b=0:=pg λc d=>z _ _ λi j=>by
  grind
 have s:q9 n r o a b=0:=pg λc d=>z _ _ λi=>k c (SE.mp d) i
 grind[q9,pg,AN]
theorem tW(j:2<=n)(f:n<=5)(i: ∀c,c<n->r.getD c 0≠x.getD c 0):Wd n r x (d6 n) (jV n r x) yO where
 up:=⟨M4 n f,J0 n f⟩
 dj:=λa b h=>by
  grind[yO]
 bs:=λK d=>dy.mpr (Io (dy.mp d))
 bb:=λK d=>Ic j (by omega) R X i (dy.mp d)
 bh:=λu g z hz=>by
  obtain⟨o,O,rfl⟩:=ik.mp g;have m:z∈bK n r x [zs o]:=by
   have:=t5.mp hz;grind
  unfold bK at m;rw[TU,jbw,TZ] at m;unfold eI at m;obtain⟨p,e,rfl⟩:=SM.mp m;rw[fF] at e⊢;obtain⟨l,k,s,q⟩:=fq.mp e;grind[Gq,jV,yO,fF]
omit X in
theorem Fh(v:2<=n)(x:n<=5){V:Cr}(l:V.Nodup)(d:lF n V){g:Int}(u: ∀z∈V,kH n r (uz z)=g):V.length<=60:=by
 let c:List Int->List Int:=λk=>zs (bU (uz k) 0 1)
 have p: ∀z∈V,¬kH n r (uz (c z))=g:=λz hz e=>by
  obtain⟨o,O,rfl⟩:=d z hz;grind[AN,fF]
 have j: ∀z∈V,∀w∈V,c z=c w->z=w:=λz hz w hw e=>by
  obtain⟨o,O,rfl⟩:=d z hz;obtain⟨o',y,rfl⟩:=d w hw;have m:bU o 0 1=bU o' 0 1:=by
   grind[fF]
  have b: ∀ {o:List Nat},Ord n o->bU (bU o 0 1) 0 1=o:=λ{o} O=>Jk O.len ⋯ ⋯
  grind
 have f:(V++V.map c).Nodup:=by
  rw[Th];refine⟨l,?_,λa t b s e=>?_⟩
  ·have: ∀ {W:Cr},W.Nodup->(∀z∈W,z∈V)->(W.map c).Nodup:=λ{W}=>by
    induction W<;>grind
   nofun
  grind
 have h: ∀z∈V++V.map c,z∈d6 n:=λz hz=>by
  rcases SL.mp hz with q|q
  ·exact ik.mpr (d z q)
  ·obtain⟨k,i,rfl⟩:=SM.mp q;obtain⟨o,O,rfl⟩:=d k i;exact ik.mpr ⟨bU o 0 1,O.exx ⋯ ⋯,by grind[fF]⟩
 have:=VN f h;grind[je]
end
def zS(h:Nat)(q:List Nat)(i:Nat):D:=.tup [.int (2*i+h),.int (2*(q.getD i 0:Nat)+h)]
theorem QX(q:List Nat):mK (q.map nI)=(R9 q.length).map λ(i:Nat)=>D.tup [nI i,nI (q.getD i 0)]:=by
 simp_all[mK]
theorem tK(O:Ord n o)(b:n<=8)(h:Nat):oz [ay o,nI h]=p5 (.lst ((R9 n).map (zS h o))):=by
 apply aS (kd:=.n) (n:=2) (t:=i8);unfold i8 lc;dsimp only;refine aU (bB (ds:=(R9 n).map λ(i:Nat)=>D.tup [nI i,nI (o.getD i 0)]) ?_ (by grind) ?_)
 ·rw[<-O.len,<-QX];rfl
 ·refine bM (h:=λ(i:Nat)=>D.tup [nI i,nI (o.getD i 0)]) (o:=zS h o) _ λi a=>⟨_,rfl,?_⟩
  rw[SE] at a;have hv:=O.get a;refine cE (ak ((aw ((aw (x:=.int 2) (y:=nI i) rfl rfl).trans (fu (by simp) ?_)) (y:=nI h) rfl).trans rfl) (ak ((aw ((aw (x:=.int 2) (y:=nI (o.getD i 0)) rfl rfl).trans (fu (by simp) ?_)) (y:=nI h) rfl).trans rfl) rfl)) (by simp)
  ·lia
  lia
def Em(h:Nat)(p:List Nat)(k:Nat)(q:List Nat)(i j:Nat):Bool:=χ ((2*i+h:Int)<2*j+k)&&χ ((2*(p.getD i 0:Nat)+h:Int)<2*(q.getD j 0:Nat)+k)
theorem Kq(p:Nat->Bool)(l:List Nat):((l.filter p).length:Int)=ls l λx=>bi (p x):=by
 have:=nu p (λ_=>1) l;rw[gY] at this;lia
theorem yD {β:Type}(f:Nat->List β): ∀l:List Nat,((l.flatMap f).length:Int)=ls l λx=>((f x).length:Int)
 | []=>rfl
 |x::l=>by rw[TU,SG,XO,yD f l];rfl
def Fm(n h:Nat)(p:List Nat)(k:Nat)(q:List Nat):Int:=ls (R9 n) λi=>ls (R9 n) λj=>bi (Em h p k q i j)
theorem Hw(c:n<=8)(h:Nat)(p:List Nat)(k:Nat)(q:List Nat):u9 [.lst ((R9 n).map (zS h p)),.lst ((R9 n).map (zS k q))]=p5 (.int (Fm n h p k q)):=by
 apply aS (kd:=.s) (n:=2) (t:=wu);unfold wu t6;dsimp only;refine aU ?_
 rw[bF (ds:=[.lst ((R9 n).flatMap λi=>((R9 n).filter (Em h p k q i)).map λ_=>D.bl ζ)]) (ak (pE (ds:=(R9 n).map (zS h p)) rfl ?_ ?_) rfl)]
 ·show p5 (D.int _)=_;rw[yD];congr 2;simp[Fm,Kq]
 ·refine(eJ (h:=zS h p) (q:=λ_=>ζ) (o:=λ(i:Nat)=>((R9 n).filter (Em h p k q i)).map λ_=>D.bl ζ) (R9 n) λi g=>⟨_,rfl,rfl,λ_=>?_⟩).trans ?_
  ·refine qp (ds:=(R9 n).map (zS k q)) rfl ?_
   refine(eJ (h:=zS k q) (q:=Em h p k q i) (o:=λ(_:Nat)=>[D.bl ζ]) (R9 n) λj e=>⟨_,rfl,?_,λ_=>pj rfl⟩).trans ?_
   ·refine k8 (a:=χ ((2*i+h:Int)<2*j+k)) (bN (aw (x:=.int (2*i+h)) (y:=.int (2*j+k)) rfl rfl)) (λz=>?_) (λz=>by grind[Em]);unfold Em;rw[z,VE];rfl
   simp[mo]
  ·rw[Ur.mpr (λ_ _=>rfl)]
 ·have b: ∀(l:List Nat) (m:Nat) (f:Nat->List D),(∀a,(f a).length<=m)->(l.flatMap f).length<=l.length*m:=by
   intro l m f u
   induction l with
   |nil=>simp
   |cons a l r=>rw[TU,SG,SN,ZL,ZM];grind
  have d:=b (R9 n) n (λi=>((R9 n).filter (Em h p k q i)).map λ_=>D.bl ζ) (λa=>by grind);rw[T8] at d;have:n*n<=8*8:=Wp c c;lia
theorem xv(h:p=ζ↔q=ζ):bi p=bi q:=by lia
theorem kE(R:Ord n r)(O:Ord n o)(b:n<=8):rm [ay r,ay o]=p5 (.int (kH n r o)):=by
 apply aS (kd:=.s) (n:=4) (t:=kW);unfold kW m5;dsimp only;refine(ax (ρ':=[.v (ay r),.v (ay o),.v (.lst ((R9 n).map (zS 0 o))),.no]) ((bf ((a7 (ds:=[ay o,nI 0]) rfl rfl).trans (tK O b 0))).trans rfl)).trans ?_
 refine(ax (ρ':=[.v (ay r),.v (ay o),.v (.lst ((R9 n).map (zS 0 o))),.v (.lst ((R9 n).map (zS 1 r)))]) ((bf ((a7 (ds:=[ay r,nI 1]) rfl rfl).trans (tK R b 1))).trans rfl)).trans ?_
 have a: ∀(h:Nat) (p:List Nat) (k:Nat) (q:List Nat) (f g:FE) (ρ:aC),f ρ=p5 (.lst ((R9 n).map (zS h p)))->g ρ=p5 (.lst ((R9 n).map (zS k q)))->am (nF 2 u9) (ae f (ae g ai)) ρ=p5 (.int (Fm n h p k q)):=λh p k q f g ρ c d=>
  (a7 (ds:=[.lst ((R9 n).map (zS h p)),.lst ((R9 n).map (zS k q))]) (ak c (ak d rfl)) rfl).trans (Hw b h p k q)
 refine aU ((aw ((aw ((aw ((aw (a 0 o 0 o _ _ _ rfl rfl) (a 0 o 1 r _ _ _ rfl rfl)).trans rfl) (a 1 r 0 o _ _ _ rfl rfl)).trans rfl) (a 1 r 1 r _ _ _ rfl rfl)).trans rfl) (y:=.int 1) rfl).trans ?_);show p5 (D.int _)=_;congr 2;unfold kH;have c:Fm n 0 o 0 o=wP n o:=by
  simp[Fm,wP,Em]
 have d:Fm n 1 r 1 r=wP n r:=by
  simp[Fm,wP,Em]
 have l:Fm n 0 o 1 r=LA n r o:=by
  unfold Fm LA Em;refine cK λi _=>cK λj _=>xv ?_
  lia
 have e:Fm n 1 r 0 o=K3 n r o:=by
  unfold Fm K3 Em;refine cK λi _=>cK λj _=>xv ?_
  lia
 lia
theorem Fe(R:Ord n r)(O:Ord n o)(a:n<=8):BZ [bt r x,ay o]=p5 (.int (kH n r o)):=by
 apply aS (kd:=.s) (n:=2) (t:=uQ);unfold uQ ub;dsimp only;exact aU ((a7 (ds:=[ay r,ay o]) rfl rfl).trans (kE R O a))
section
variable {n:Nat}{r x:List Nat}{S:Nat->Nat}(R:Ord n r)(X:Ord n x)(H:Sg n r x S)(hn:n<=8)
include R X H hn
theorem FN: ∃L,qA [bt r x]=p5 (.lst L)/\L.length=((R9 n).filter (qN S)).length:=by
 obtain⟨C,_,h⟩:=C3 R X H hn;exact⟨_,h,by simp⟩
theorem Kh(O:Ord n o):G6 [bt r x,ay o]=p5 (.int (kH n r o-kH n x o-n+((R9 n).filter (qN S)).length)):=by
 obtain⟨L,b,a⟩:=FN R X H hn;rw[<-a];apply aS (kd:=.s) (n:=5) (t:=zo);unfold zo uv;dsimp only;refine(ax (ρ':=[.v (bt r x),.v (ay o),.v (ay r),.v (ay x),.no]) (rg (oR rfl) rfl)).trans ?_
 refine(ax (ρ':=[.v (bt r x),.v (ay o),.v (ay r),.v (ay x),.v (.int (kH n r o-kH n x o))]) ((bf ((aw ((a7 (ds:=[ay r,ay o]) rfl rfl).trans (kE R O hn)) ((a7 (ds:=[ay x,ay o]) rfl rfl).trans (kE X O hn))).trans rfl)).trans rfl)).trans ?_
 refine aU ((aw ((aw (x:=.int (kH n r o-kH n x o)) rfl (eF r _ _ rfl)).trans (lY _ _)) ((bF (ds:=[.lst L]) (ak ((a7 (ds:=[bt r x]) rfl rfl).trans b) rfl)).trans rfl)).trans ?_);rw[R.len];rfl
end
theorem yw(c:p ρ=p5 a)(d:q ρ=p5 b):d4 p q ρ=p5 (a&&b):=by
 grind[d4]
theorem Q3(i j:Nat):o7 (nI i) (nI j)=p5 (.bl (χ (i<j))):=by simp[pG]
theorem RT(i j:Nat):OI (nI i) (nI j)=p5 (.bl (χ (i<=j))):=by simp[Kb]
abbrev yQ(r o:List Nat)(m:Int)(n:Nat)(b a:Sl):aC:=[.v (ay r),.v (ay o),.v (.int m),.v (nI n),b,a]
def Bm:FS:=(aF (bp 2 (ar cr (ah 2) (am yT (ae (xS (d4 (bO (ar o7 (ah 4) (ah 5))) (bO (ar o7 (ar aY (ah 1) (ah 4)) (ar aY (ah 1) (ah 5)))))) (ai)))))
 (aF (bp 2 (ar cr (ah 2) (am yT (ae (xS (d4 (bO (ar o7 (ah 4) (ah 5))) (bO (ar o7 (ar aY (ah 0) (ah 4)) (ar aY (ah 0) (ah 5)))))) (ai)))))
 (aF (bp 2 (ar fw (ah 2) (am yT (ae (xS (d4 (bO (ar OI (ah 4) (ah 5))) (bO (ar OI (ar aY (ah 1) (ah 4)) (ar aY (ah 0) (ah 5)))))) (ai)))))
 (bp 2 (ar fw (ah 2) (am yT (ae (xS (d4 (bO (ar o7 (ah 4) (ah 5))) (bO (ar o7 (ar aY (ah 0) (ah 4)) (ar aY (ah 1) (ah 5)))))) (ai))))))))
def Jj(r o:List Nat)(i j:Nat):Int:=((bi (χ (i<j)&&χ (o.getD i 0<o.getD j 0))+bi (χ (i<j)&&χ (r.getD i 0<r.getD j 0))) -bi (χ (i<=j)&&χ (o.getD i 0<=r.getD j 0))) -bi (χ (i<j)&&χ (r.getD i 0<o.getD j 0))
theorem E8{r o:List Nat}(d:r.length=n)(e:o.length=n)(m:Int)(t:i<n)(l:j<n):Bm (yQ r o m n (.v (nI i)) (.v (nI j)))=.nx (yQ r o (m+Jj r o i j) n (.v (nI i)) (.v (nI j))):=by
 have c: ∀(G:D->D->Option D) (g:Nat->Nat->Bool),(∀a b,G (nI a) (nI b)=p5 (.bl (g a b)))-> ∀(u v:Nat) (p q:List Nat) (m:Int),ah u (yQ r o m n (.v (nI i)) (.v (nI j)))=p5 (ay p)->ah v (yQ r o m n (.v (nI i)) (.v (nI j)))=p5 (ay q)->p.length=n->q.length=n->
  am yT (ae (xS (d4 (bO (ar G (ah 4) (ah 5))) (bO (ar G (ar aY (ah u) (ah 4)) (ar aY (ah v) (ah 5)))))) (ai)) (yQ r o m n (.v (nI i)) (.v (nI j)))=p5 (.int (bi (g i j&&g (p.getD i 0) (q.getD j 0)))):=by
  intro G g f u v p q m h hv s k;exact(bF (ds:=[.bl (g i j&&g (p.getD i 0) (q.getD j 0))]) (ak (m6 (yw (bN ((aw (x:=nI i) (y:=nI j) rfl rfl).trans (f i j))) (bN ((aw ((aw (y:=nI i) h rfl).trans (gA (by nofun))) ((aw (y:=nI j) hv rfl).trans (gA (by nofun)))).trans (f _ _))))) rfl)).trans rfl
 unfold Bm;refine(ax ((bf ((aw (x:=.int m) rfl (c o7 (λa b=>decide (a<b)) Q3 1 1 o o m rfl rfl e e)).trans (fZ _ _))).trans rfl)).trans ?_
 refine(ax (ρ:=yQ r o _ n (.v (nI i)) (.v (nI j))) ((bf ((aw (x:=.int _) rfl (c o7 (λa b=>decide (a<b)) Q3 0 0 r r _ rfl rfl d d)).trans (fZ _ _))).trans rfl)).trans ?_
 refine(ax (ρ:=yQ r o _ n (.v (nI i)) (.v (nI j))) ((bf ((aw (x:=.int _) rfl (c OI (λa b=>decide (a<=b)) RT 1 0 o r _ rfl rfl e d)).trans (lY _ _))).trans rfl)).trans ?_
 refine Eq.trans (b:=.nx (yQ r o _ n (.v (nI i)) (.v (nI j)))) ((bf (ρ:=yQ r o _ n (.v (nI i)) (.v (nI j))) ((aw (x:=.int _) rfl (c o7 (λa b=>decide (a<b)) Q3 0 1 r o _ rfl rfl d e)).trans (lY _ _))).trans rfl) ?_
 congr 5;grind[Jj]
theorem GX{r o:List Nat}(c:r.length=n)(f:o.length=n)(e:i<n): ∀(l:List Nat) (m:Int) (b:Sl),(∀j∈l,j<n)-> ∃a,c9 (gN 5) Bm (l.map nI) (yQ r o m n (.v (nI i)) b)=.nx (yQ r o (m+ls l (Jj r o i)) n (.v (nI i)) a)
 | [],m,b,_=>⟨b,by simp[ls,c9]⟩
 |j::l,m,b,d=>by
  obtain⟨a,h⟩:=GX c f e l (m+Jj r o i j) (.v (nI j)) λz hz=>d z (Sx _ hz)
  refine⟨a,?_⟩;rw[So];refine(bT (ρ1:=yQ r o m n (.v (nI i)) (.v (nI j))) rfl (E8 c f m e (d j (SB ..)))).trans (h.trans ?_);grind[gJ]
theorem Bz{r o:List Nat}(e:r.length=n)(g:o.length=n)(p:n<=8): ∀(l:List Nat) (m:Int) (d c:Sl),(∀j∈l,j<n)-> ∃b a,c9 (gN 4) (eL (cV (cC (ae (ah 3) (ai)))) (gN 5) Bm) (l.map nI) (yQ r o m n d c)=.nx (yQ r o (m+ls l λi=>ls (R9 n) (Jj r o i)) n b a)
 | [],m,d,c,_=>⟨d,c,by simp[ls,c9]⟩
 |i::l,m,d,c,f=>by
  obtain⟨q,k⟩:=GX e g (f i (SB ..)) (R9 n) m c λz hz=>SE.mp hz
  obtain⟨b,a,h⟩:=Bz e g p l (m+ls (R9 n) (Jj r o i)) (.v (nI i)) q λz hz=>f z (Sx _ hz)
  refine⟨b,a,?_⟩;rw[So];refine(bT (ρ1:=yQ r o m n (.v (nI i)) c) rfl ((cG (ds:=(R9 n).map nI) (bx (cZ (ak rfl rfl) ⋯))).trans k)).trans (h.trans ?_);simp[gJ,Int.add_assoc]
theorem om{r o:List Nat}(b:r.length=n)(a:o.length=n)(c:n<=8):oG [ay r,ay o]=p5 (.int (kH n r o)):=by
 obtain⟨d,f,h⟩:=Bz b a c (R9 n) 1 .no .no λz hz=>SE.mp hz
 apply aS (kd:=.s) (n:=6) (t:=jD);unfold jD kv;dsimp only;refine(ax (ρ':=[.v (ay r),.v (ay o),.v (.int 1),.no,.no,.no]) rfl).trans ?_
 refine(ax (ρ':=yQ r o 1 n .no .no) ((bf (a▸eF o _ _ rfl)).trans rfl)).trans ?_
 refine(ax ((cG (ds:=(R9 n).map nI) (bx (cZ (ak rfl rfl) (by omega)))).trans h)).trans (aU ?_);have:1+(ls (R9 n) λi=>ls (R9 n) (Jj r o i))=kH n r o:=by
  have e:(ls (R9 n) λi=>ls (R9 n) (Jj r o i))=((wP n o+wP n r) -LA n r o) -K3 n r o:=by
   unfold wP LA K3;rw[<-fU,<-dA,<-dA];refine cK λi _=>?_
   unfold Jj;rw[dA,dA,fU]
  grind[kH]
 rw[this];rfl
theorem Bn: ∀n,n<=6-> ∀k,k<=n->(iH n k).length<=720:=by decide+kernel
theorem Eg(L:List Nat)(c:Nat):rQ ζ (nI c) (.tup (L.map nI))=p5 (.bl (!χ (c∈L))):=by
 unfold rQ pT;dsimp only;rw[show bJ (nI c::L.map nI)=0 from kJ (c::L),if_pos (by simp),G5];rfl
theorem A1(m:n<=6):de [nI n]=p5 (.lst ((iH n n).map ay)):=by
 apply vG (kd:=.n) (n:=3) (t:=iy);unfold iy kb;dsimp only;rw[ax (ρ':=[.v (nI n),.own ((iH n 0).map ay),.no]) ((fG (mL (ds:=[.tup []]) rfl (by simp))).trans rfl)]
 obtain⟨ρ',lp,c,a⟩:=qR (g:=gN 2) (b:=dW 1 (mN 2 (jE (dZ 1)) (gN 3) (dH) (cC (ae (ah 0) (ai))) (gN 4) (bO (ar (rQ ζ) (ah 4) (ah 3))) (ar j0 (ah 3) (dz (ae (ah 4) (ai)))))) (P:=λi ρ=> ∃c,ρ=[.v (nI n),.own ((iH n i).map ay),c]) ((R9 n).map nI) 0 (λd p i ρ j a=>by
  obtain⟨c,rfl⟩:=a;have j:i<n:=by nofun
  refine⟨[.v (nI n),.own ((iH n i).map ay),.v d],[.v (nI n),.own ((iH n (i+1)).map ay),.v d],rfl,(fG (pE (ds:=(iH n i).map ay) (ys:=(iH n (i+1)).map ay) (vY rfl) ?_ (by grind[Bn]))).trans rfl,_,rfl⟩;refine(eJ (h:=ay) (q:=λ_=>ζ) (o:=λs=>(((R9 n).filter λh=> !χ (h∈s)).map λh=>s++[h]).map ay) (iH n i) λs k=>⟨_,rfl,rfl,λ_=>qp (ds:=(R9 n).map nI) (cZ (n:=n) rfl ⋯) ?_⟩).trans ?_
  ·refine(eJ (h:=nI) (q:=λh=> !χ (h∈s)) (o:=λh=>[ay (s++[h])]) (R9 n) λh r=>⟨_,rfl,bN ((aw (x:=nI h) (y:=ay s) rfl rfl).trans (Eg s h)),λ_=>?_⟩).trans ?_
   ·have f:=(vC n i s k).1;have:ar j0 (ah 3) (dz (ae (ah 4) (ai))) [.v (nI n),.own ((iH n i).map ay),.v d,.v (ay s),.v (nI h)]=p5 (ay (s++[h])):=by
     refine(aw (x:=ay s) (y:=.tup [nI h]) rfl (cE rfl (by simp))).trans ?_
     show(if _ then _ else _)=_;rw[if_pos (Tk (show(s.map nI).length+ [nI h].length<=900 by grind) ())];simp
    exact congrArg (Option.map λd=>[d]) this
   ·rw[SJ];congr 1;generalize (R9 n).filter _=l
    induction l<;>grind
  ·have e:(iH n i).filter (λ_=>ζ)=iH n i:=Ur.mpr λ_ _=>rfl
   rw[e];show p5 (jeX _ (iH n i))=p5 (jaO ay (jeX _ (iH n i)));rw[Uo]) [.v (nI n),.own ((iH n 0).map ay),.no] ⟨_,rfl⟩
 have f:0+((R9 n).map nI).length=n:=by simp
 rw[f] at a;subst a;exact⟨_,(ax ((cG (ds:=(R9 n).map nI) (bx (cZ (n:=n) rfl ⋯))).trans lp)).trans rfl⟩
theorem JD{bs ds:List D}(a:f ρ=p5 (.lst ds))(b:gm i ρ=p5 bs)(c:bs.length+ds.length<=900):dB (uW i f) ρ=.nx (fO i (bs++ds) ρ):=by
 refine yd (d:=.non) ?_
 unfold uW;rw[a];dsimp only;rw[b];dsimp only;rw[if_pos (Tk c ())]
def sM(n:Nat)(s:List Nat):List (List Nat):=((R9 n).filter λh=> !χ (h∈s)).map λh=>s++[h]
theorem tH(f:n<=6)(A B:Sl): ∀(l F:List (List Nat)) (b:Sl),(∀s∈l,s.length<=6)->F.length+(l.flatMap (sM n)).length<=800-> ∃a,c9 (gN 4) (dB (uW 3 (bm 1 (cC (ae (ah 0) (ai))) (gN 5) (bO (ar (rQ ζ) (ah 5) (ah 4))) (ar j0 (ah 4) (dz (ae (ah 5) (ai))))))) (l.map ay) [.v (nI n),A,B,.own (F.map ay),b]=.nx [.v (nI n),A,B,.own ((F++l.flatMap (sM n)).map ay),a]
 | [],F,b,_,_=>⟨b,by rw[jbw,TZ];rfl⟩
 |s::l,F,b,c,h=>by
  rw[TU,SG] at h;obtain⟨a,d⟩:=tH f A B l (F++sM n s) (.v (ay s)) (λt g=>c t (Sx _ g)) (by grind);refine⟨a,?_⟩;have e:bm 1 (cC (ae (ah 0) (ai))) (gN 5) (bO (ar (rQ ζ) (ah 5) (ah 4))) (ar j0 (ah 4) (dz (ae (ah 5) (ai)))) [.v (nI n),A,B,.own (F.map ay),.v (ay s)]=p5 (.lst ((sM n s).map ay)):=by
   refine(bB (ds:=(R9 n).map nI) (cZ (n:=n) rfl ⋯) (by simp;lia) (fR (h:=nI) (o:=λh=>ay (s++[h])) (q:=λh=> !χ (h∈s)) (R9 n) λh i=>⟨[.v (nI n),A,B,.own (F.map ay),.v (ay s),.v (nI h)],rfl,bN ((aw (x:=nI h) (y:=ay s) rfl rfl).trans (Eg s h)),λ_=>?_⟩)).trans (by simp[sM]);refine(aw (x:=ay s) (y:=.tup [nI h]) rfl (cE rfl (by simp))).trans ?_
   show(if _ then _ else _)=_;have:=c s SB;rw[if_pos (Tk (show(s.map nI).length+ [nI h].length<=900 by grind) ())];simp
  have st:dB (uW 3 (bm 1 (cC (ae (ah 0) (ai))) (gN 5) (bO (ar (rQ ζ) (ah 5) (ah 4))) (ar j0 (ah 4) (dz (ae (ah 5) (ai)))))) [.v (nI n),A,B,.own (F.map ay),.v (ay s)]=.nx [.v (nI n),A,B,.own ((F++sM n s).map ay),.v (ay s)]:=by
   refine(JD e (bs:=F.map ay) rfl (by grind)).trans ?_
   rw[SZ];rfl
  rw[So,bT (ρ1:=[.v (nI n),A,B,.own (F.map ay),.v (ay s)]) rfl st,d,W1,TU]
theorem IZ(k:n<=6):gZ [nI n]=p5 (.lst ((iH n n).map ay)):=by
 apply vG (kd:=.s) (n:=5) (t:=nS);unfold nS ox;dsimp only;have s0:bp 1 (bZ (ae (dz (ai)) (ai))) (mG 5 [nI n])=.nx [.v (nI n),.v (.lst ((iH n 0).map ay)),.no,.no,.no]:=(bf (mL (ds:=[.tup []]) rfl (by simp))).trans rfl
 rw[ax s0];obtain⟨ρ',lp,h,f,c,a⟩:=qR (g:=gN 2) (b:=aF (dW 3 (bZ (ai)))
  (aF (eL (cV (d9 (ah 1))) (gN 4) (dB (uW 3 (bm 1 (cC (ae (ah 0) (ai))) (gN 5) (bO (ar (rQ ζ) (ah 5) (ah 4))) (ar j0 (ah 4) (dz (ae (ah 5) (ai))))))))
  ((λρ=>(bp 1 (ah 3)) (DX 3 ρ))))) (P:=λi ρ=> ∃h f c,ρ=[.v (nI n),.v (.lst ((iH n i).map ay)),h,f,c]) ((R9 n).map nI) 0 (λd r i ρ j a=>by
  obtain⟨h,f,c,rfl⟩:=a;have j:i<n:=by grind
  have p:dW 3 (bZ (ai)) [.v (nI n),.v (.lst ((iH n i).map ay)),.v d,f,c]=.nx [.v (nI n),.v (.lst ((iH n i).map ay)),.v d,.own (([]:List (List Nat)).map ay),c]:=(fG (mL rfl (by simp))).trans rfl;obtain⟨e,m⟩:=tH k (.v (.lst ((iH n i).map ay))) (.v d) (iH n i) [] c (λs q=>by grind[vC]) (by have:=Bn n k (i+1) j;show 0+(iH n (i+1)).length<=800;omega);have l:eL (cV (d9 (ah 1))) (gN 4) (dB (uW 3 (bm 1 (cC (ae (ah 0) (ai))) (gN 5) (bO (ar (rQ ζ) (ah 5) (ah 4))) (ar j0 (ah 4) (dz (ae (ah 5) (ai))))))) [.v (nI n),.v (.lst ((iH n i).map ay)),.v d,.own (([]:List (List Nat)).map ay),c]=.nx [.v (nI n),.v (.lst ((iH n i).map ay)),.v d,.own ((iH n (i+1)).map ay),e]:=(cG (ds:=(iH n i).map ay) (bx (dS rfl))).trans m
  exact⟨_,[.v (nI n),.v (.lst ((iH n (i+1)).map ay)),.v d,.v (.lst ((iH n (i+1)).map ay)),e],rfl,(ax p).trans ((ax l).trans rfl),_,_,_,rfl⟩) [.v (nI n),.v (.lst ((iH n 0).map ay)),.no,.no,.no] ⟨_,_,_,rfl⟩
 have o:0+((R9 n).map nI).length=n:=by simp
 rw[o] at a;subst a;exact⟨_,(ax ((cG (ds:=(R9 n).map nI) (bx (cZ (n:=n) rfl (by omega)))).trans lp)).trans (aU rfl)⟩
theorem kP(l:List Nat):ay l=aQ (zs l):=by simp[aQ,zs]
theorem zF(L:List (List Nat)):L.map ay=(L.map zs).map aQ:=by simp[kP]
abbrev srt(K:List (List Int)):List (List Int):=bz aT K
abbrev kD(K:List (List Int)):D:=.lst (K.map aQ)
structure Cw(N:Nat)(K:List (List Int)):Prop where
 nd:K.Nodup
 len:K.length<=N
 ne: ∀k∈K,k≠[]
theorem jk: ∀K:List (List Int),jo (K.map aQ)=p5 K
 | []=>rfl
 |k::K=>by
  rw[So];simp[jo,aQ,fy,jk]
theorem E3 {N M:Nat}(h:Cw N A)(h':Cw M B)(d:N+M<=1000)(c:(h8 A B).length<64):fH [kD A,kD B]=p5 (kD (srt (h8 A B))):=by
 apply aS (kd:=.n) (n:=2) (t:=wC) (ρ:=[.v (kD A),.v (kD B)]);unfold wC ua;dsimp only;refine aU ?_
 show((jo (A.map aQ)).bind λa=>(jo (B.map aQ)).bind λb=>if(a.Nodup/\b.Nodup)/\a.length+b.length<=1000/\(h8 a b).length<64/\(∀k∈a,k≠[])/\(∀k∈b,k≠[]) then p5 (D.lst ((bz aT (h8 a b)).map aQ)) else ξ)=_;rw[jk,jk,Ss,Ss,if_pos ⟨⟨h.nd,h'.nd⟩,by have:=h.len;have:=h'.len;lia,c,h.ne,h'.ne⟩]
theorem Ol: ∀ {o:List Nat},o.length=5->o.sum=o.getD 0 0+o.getD 1 0+o.getD 2 0+o.getD 3 0+o.getD 4 0
 | [a,b,c,d,e],_=>by show a+(b+(c+(d+(e+0))))=a+b+c+d+e;omega
 | [],h=>by rfl
 | [_],h=>by rfl
 | [_,_],h=>by rfl
 | [_,_,_],h=>by simp at h
 | [_,_,_,_],h=>by simp at h
 |_::_::_::_::_::_::_,h=>by simp at h
def QG(k:List Int):Nat:=(uz k).getD 0 0+5*(uz k).getD 1 0+25*(uz k).getD 2 0+125*(uz k).getD 3 0
theorem Ord.get0{o:List Nat}(O:Ord n o)(a:n<=5)(c:Nat):o.getD c 0<5:=by
 by_cases h:c<n
 ·have:=O.get h;lia
 ·rw[T7,Xg (by rw[O.len];nofun)];simp
theorem dg {a b x y:Nat}(d:a<5)(c:b<5)(e:a+5*x=b+5*y):a=b/\x=y:=by omega
theorem wE {n:Nat}(c:n<=5){L:List (List Int)}(D:L.Nodup)(h:lF n L):L.length<=625:=by
 have:(L.map QG).length<=625:=pP (by
  rw[List.nodup_iff_pairwise_ne,Uh];refine VC (λ{a b} m s v e=>v ?_) D;obtain⟨o,O,rfl⟩:=h a m;obtain⟨o',d,rfl⟩:=h b s;unfold QG at e;rw[fF,fF] at e;have g:=O.get0 c 0;have f:=O.get0 c 1;have j:=O.get0 c 2;have p:=O.get0 c 3;have b0:=d.get0 c 0;have t:=d.get0 c 1;have q:=d.get0 c 2;have G:=d.get0 c 3;obtain⟨C,e⟩:=dg g b0 (x:=o.getD 1 0+5*(o.getD 2 0+5*o.getD 3 0)) (y:=o'.getD 1 0+5*(o'.getD 2 0+5*o'.getD 3 0)) (by omega);obtain⟨A,e⟩:=dg f t e;obtain⟨E,r⟩:=dg j q e;congr 1;refine Fs (by rw[O.len,d.len]) λi w=>?_
  rw[O.len] at w;have:i=0\/i=1\/i=2\/i=3\/i=4:=by omega
  rcases this with e|e|e|e|e<;>subst e
  ·exact C
  ·exact A
  ·exact E
  ·exact r
  ·have F:n=5:=by lia
   subst F;have l:=Ol O.len;have u:=Ol d.len;rw[xw O.perm] at l;rw[xw d.perm] at u
   lia) λz hz=>by
  obtain⟨k,B,rfl⟩:=SM.mp hz;obtain⟨o,O,rfl⟩:=h k B;unfold QG;rw[fF];have g:=O.get0 c 0;have f:=O.get0 c 1;have j:=O.get0 c 2;have p:=O.get0 c 3;omega
 nofun
theorem tw {g:FG}{i:Nat}{st:List (List Int)->Sl->aC}{fk:FE}{n:Nat}(p:n<=5)(q: ∀acc s d,g d (st acc s)=p5 (st acc (.v d)))(l: ∀acc d,fk (st acc (.v d))=p5 d)(u: ∀acc s,xf i (st acc s)=p5 acc)(t: ∀acc a s,(st acc s).set i (.ob (.tset a))=st a s):
 ∀(ks acc:List (List Int)) (s:Sl),acc.Nodup->lF n acc->lF n ks-> ∃s',c9 g (fL (Ib i fk) (dB (Ds oM i fk)) (dB (Ds n8 i fk))) (ks.map aQ) (st acc s)=.nx (st (ks.foldl jH acc) s')
 | [],acc,s,_,_,_=>⟨s,rfl⟩
 |k::ks,acc,s,o,m,r=>by
  have x:=wE p o m;have j:lF n (jH acc k):=λz hz=>by
   have:=(xR acc k z).mp hz
   by_cases e:z=k
   ·rw[e];exact r k SB
   ·rw[if_neg e] at this;exact m z this
  obtain⟨s',h⟩:=tw p q l u t ks (jH acc k) (.v (aQ k)) (wG o k) j λz hz=>r z (Sx _ hz)
  have w:(fk (st acc (.v (aQ k)))).bind mi=p5 k:=by rw[l];exact fy k
  have b:Ib i fk (st acc (.v (aQ k)))=p5 (χ (k∈acc)):=by
   grind[Ib]
  have op: ∀f,dB (Ds f i fk) (st acc (.v (aQ k)))=.nx (st (f acc k) (.v (aQ k))):=λf=>by
   grind[dB,Ds]
  refine⟨s',?_⟩;rw[So];refine(bT (ρ1:=st acc (.v (aQ k))) (q _ _ _) (ρ2:=st (jH acc k) (.v (aQ k))) ?_).trans h;unfold jH
  by_cases c:k∈acc
  ·rw[if_pos c,lZ (b.trans ⋯)];exact op _
  ·rw[if_neg c,lB (b.trans ⋯)];exact op _
theorem vI(h:0<n){K:List (List Int)}(a:lF n K): ∀k∈K,k≠[]:=λk b e=>by
 obtain⟨o,O,rfl⟩:=a k b;have c:=O.len;have:=congrArg Uk e;grind[zs]
theorem IK(e:0<n)(d:n<=5)(c:lF n ks)(b:(yG ks).length<64):jY [kD ks]=p5 (kD (fC ks)):=by
 obtain⟨s',h⟩:=tw d (g:=gN 2) (i:=1) (fk:=ah 2) (st:=λacc s=>[.v (.lst (ks.map aQ)),.ob (.tset acc),s]) (λ_ _ _=>rfl) (λ_ _=>rfl) (λ_ _=>rfl) (λ_ _ _=>rfl) ks [] .no Wq (λ_ h=>nomatch h) c;apply aS (kd:=.n) (n:=3) (t:=gK);unfold gK iv;dsimp only;refine(ax (ρ':=[.v (.lst (ks.map aQ)),.ob (.tset []),.no]) rfl).trans ((ax ((cG (bx (dS rfl))).trans h)).trans (aU ?_));unfold Le;show(p5 (ks.foldl jH [])).bind _=_;rw[Ss];have f:lF n (yG ks):=λz hz=>c z (Mm hz)
 rw[if_pos ⟨b,λk a=>vI e f k a⟩];rfl
theorem zx {a:Nat}(h:a<=20000):a<=sizeLine:=by grind[TY]
theorem Ek{ds ys:List D}(a:gi1 ρ=p5 ds)(b:po g1 p1 (G4 gi2 g2 p2 f) (ρ++SA m .no) ds=p5 ys)(c:ys.length<=20000):mN m gi1 g1 p1 gi2 g2 p2 f ρ=p5 (.lst ys):=by
 unfold mN;rw[a,Ss,b,Ss,if_pos (zx c)]
theorem GG(r x:List Nat)(a:n<=5): ∀K:List (List Int),(bK n r x K).length<=25*K.length
 | []=>by simp[bK]
 |k::K=>by
  unfold bK;rw[TU,SG,SN];have b:=GG r x a K;unfold bK at b;have c:(eI n r x k).length<=n*n:=by simp[eI,Mx]
  have d:n*n<=5*5:=Wp a a;lia
theorem CA(i:2<=n)(d:n<=5)(R:Ord n r)(X:Ord n x){K:List (List Int)}(c:lF n K)(g:K.length<=700)(a:(cP n r x K).length<64):jd [bt r x,kD K]=p5 (kD (cP n r x K)):=by
 apply aS (kd:=.n) (n:=2) (t:=pN) (ρ:=[.v (bt r x),.v (kD K)]);unfold pN ri;dsimp only;refine aU ((a7 (ds:=[kD (bK n r x K)]) (ak ?_ rfl) rfl).trans (IK ⋯ d (EJ c) (by unfold cP fC at a;rwa [(bw (lt:=aT) _).length_eq] at a)));have e:K=(K.map uz).map zs:=by
  rw[SJ];refine(jbL K).symm.trans (TC λk b=>?_);obtain⟨o,O,rfl⟩:=c k b;simp[fF]
 refine Ek (ds:=K.map aQ) (ys:=(bK n r x K).map aQ) (dS rfl) ?_ (by grind[GG])
 refine(eJ (h:=aQ) (q:=λ_=>ζ) (o:=λk=>(eI n r x k).map aQ) K λk b=>⟨[.v (bt r x),.v (kD K),.v (aQ k),.no,.no,.no],rfl,rfl,λ_=>?_⟩).trans ?_
 ·obtain⟨o,O,rfl⟩:=c k b;refine qp (ds:=(sp n (bR r x o)).map λp=>za o p.1 p.2) (dS ((a7 (ds:=[bt r x,ay o]) (ak rfl (ak (by rw[kP];rfl) rfl)) rfl).trans ((Hl O R.len X.len ⋯ ⋯).trans (by rw[IS O.len])))) ?_
  refine(eJ (h:=λp:Nat×Nat=>za o p.1 p.2) (q:=λ_=>ζ) (o:=λp=>[aQ (zs (bU o p.1 p.2))]) (sp n (bR r x o)) λp f=>⟨[.v (bt r x),.v (kD K),.v (aQ (zs o)),.v (nI p.1),.v (nI p.2),.v (ay (bU o p.1 p.2))],rfl,rfl,λ_=>pj (by rw[<-kP (bU o p.1 p.2)];rfl)⟩).trans ?_
  rw[Ur.mpr (λ_ _=>rfl),mo];unfold eI;rw[fF,SJ];rfl
 ·rw[Ur.mpr (λ_ _=>rfl)];simp[bK,Uo]
theorem Iq(l:List Nat):b9 (l.map nI)=p5 (zs l):=by
 have:=fy (zs l);unfold zs at this⊢;rw[SJ] at this;exact this
theorem E7: ∀(kvs:j9) (l:List (List Int)),kvs.map (·.1)=l.map iK->ey kvs=p5 l:=by
 intro kvs
 induction kvs with
 |nil=>intro l h;cases l with|nil=>rfl|cons _ _=>cases h
 |cons p kvs a=>
  intro l h;cases l with
  |nil=>cases h
  |cons z l=>
   rw[So,So] at h;grind[ey,pK]
theorem pI {α:Type}{g:FG}{b:FS}{h:α->D}{out:α->List (List Int)}{P:List (List Int)->aC->Prop}: ∀(l:List α),(∀x∈l,∀ks ρ,P ks ρ-> ∃ρ1 ρ2,g (h x) ρ=p5 ρ1/\b ρ1=.nx ρ2/\P (ks++out x) ρ2)-> ∀ks ρ,P ks ρ-> ∃ρ',c9 g b (l.map h) ρ=.nx ρ'/\P (ks++l.flatMap out) ρ'
 | [],_,ks,ρ,p=>⟨ρ,rfl,by nofun⟩
 |x::l,H,ks,ρ,p=>by
  obtain⟨ρ1,ρ2,d,i,c⟩:=H x (by simp) ks ρ p;obtain⟨ρ',e,f⟩:=pI l (λy a=>H y (by simp[a])) (ks++out x) ρ2 c;grind[bT]
def P9:FS:=fL (d4 (bO (ar oZ (ah 4) (ah 5))) (c8 (am (nF 4 kB) (ae (ah 0) (ae (ah 3) (ae (ah 4) (ae (ah 5) (ai)))))))) (aF (dW 6 (am xN (ae (ah 3) (ai))))
 (aF (eK (gT 2 (gp (cI 6 (ah 4)) (gp (cI 6 (ah 5)) (kZ)))) (pu (dz (ae (ar aY (ah 3) (ah 5)) (ae (ar aY (ah 3) (ah 4)) (ai))))))
 (ml 2 (jA (dZ 6)) (xS (fN (bO (ur 2 (jA (dZ 6)) (aD (.bl θ))))))))) (dc)
section
variable {n:Nat}{r x:List Nat}(h2:2<=n)(hn:n<=5)(R:Ord n r)(X:Ord n x)
include h2 hn R X
theorem IT(C:D)(f:Ord n o)(I:q7 kvs ks)(s:lF n ks)(i:a<n)(h:b<n)(d:Sl):
 ∃c g,P9 [.v (bt r x),.v C,.ob (.dT kvs),.v (ay o),.v (nI a),.v (nI b),d]=.nx [.v (bt r x),.v C,.ob (.dT c),.v (ay o),.v (nI a),.v (nI b),g]/\q7 c (ks++if(χ (a≠b)&&bR r x o a b)=ζ then [zs (bU o a b)] else []):=by
 have F:=f.len
 let st:j9->Sl->aC:=λkvs d=>[.v (bt r x),.v C,.ob (.dT kvs),.v (ay o),.v (nI a),.v (nI b),d]
 have B:bO (ar oZ (ah 4) (ah 5)) (st kvs d)=p5 (χ (a≠b)):=by
  refine bN ((aw (x:=nI a) (y:=nI b) rfl rfl).trans ?_);rw[nK (by simp[df]),kL];simp
 have w:d4 (bO (ar oZ (ah 4) (ah 5))) (c8 (am (nF 4 kB) (ae (ah 0) (ae (ah 3) (ae (ah 4) (ae (ah 5) (ai))))))) (st kvs d)=p5 (χ (a≠b)&&bR r x o a b):=
  k8 B (λz=>by
   rw[z,VE];refine dJ ((a7 (ds:=[bt r x,ay o,nI a,nI b]) rfl rfl).trans ((zW f.len R.len X.len ⋯ ⋯ i h).trans ?_))
   rw[Dp f R X i h (of_decide_eq_true z)]) (λz=>by rw[z];rfl)
 have G:kvs.length<=720:=by
  obtain⟨l,p,E,t⟩:=I.keys;have e:=congrArg Uk p;rw[Sm,Sm] at e;rw[e];exact Tk (wE hn E λz hz=>s z ((t z).mp hz)) (by simp)
 cases e:(decide (a≠b)&&bR r x o a b) with
 |false=>
  rw[e] at w;refine⟨kvs,d,gR w,?_⟩;nofun
 |true=>
  rw[e] at w;have u:dW 6 (am xN (ae (ah 3) (ai))) (st kvs d)=.nx (st kvs (.own (o.map nI))):=(fG (ds:=o.map nI) rfl).trans rfl;have q:eK (gT 2 (gp (cI 6 (ah 4)) (gp (cI 6 (ah 5)) (kZ)))) (pu (dz (ae (ar aY (ah 3) (ah 5)) (ae (ar aY (ah 3) (ah 4)) (ai))))) (st kvs (.own (o.map nI)))=.nx (st kvs (.own ((bU o a b).map nI))):=by
   refine rg (oR (cE (ak ((aw (x:=ay o) (y:=nI b) rfl rfl).trans (gA (by nofun))) (ak ((aw (x:=ay o) (y:=nI a) rfl rfl).trans (gA (by nofun))) rfl)) (by grind))) ?_
   simp only[gT,SN,T3,gp];rw[hZ (bs:=o.map nI) (j:=a) rfl rfl (by nofun)];simp only[Ss];rw[hZ (bs:=(o.map nI).set a (nI (o.getD b 0))) (j:=b) rfl rfl (by simp;nofun)];simp only[Ss,kZ,pY];rfl
  have k:jA (dZ 6) (st kvs (.own ((bU o a b).map nI)))=p5 (zs (bU o a b)):=Iq _;have vl:xS (fN (bO (ur 2 (jA (dZ 6)) (aD (.bl θ))))) (st kvs (.own ((bU o a b).map nI)))=p5 (.bl (match cv kvs (iK (zs (bU o a b))) with|some (.bl b)=> !b|_=>ζ)):=by
   have dg:ur 2 (jA (dZ 6)) (aD (.bl θ)) (st kvs (.own ((bU o a b).map nI)))=p5 ((cv kvs (iK (zs (bU o a b)))).getD (.bl θ)):=by
    unfold ur;show(p5 kvs).bind _=_;rw[Ss,k,Ss];rfl
   by_cases m:zs (bU o a b)∈ks
   ·rw[I.val _ m] at dg⊢;exact m6 (eY (bN dg))
   ·rw[I.non _ m] at dg⊢;exact m6 (eY (b:=θ) (bN dg))
  have A:ml 2 (jA (dZ 6)) (xS (fN (bO (ur 2 (jA (dZ 6)) (aD (.bl θ)))))) (st kvs (.own ((bU o a b).map nI)))=.nx (st (CU kvs (zs (bU o a b))) (.own ((bU o a b).map nI))):=by
   unfold ml;rw[show nH 2 (st kvs (.own ((bU o a b).map nI)))=p5 kvs from rfl];dsimp only;rw[vl];dsimp only;rw[k];dsimp only;rw[if_pos (by omega)];rfl
  refine⟨_,_,(lZ w).trans ((ax u).trans ((ax q).trans A)),?_⟩;rw[if_pos rfl];exact I.step _
theorem qt {K:List (List Int)}(hK:lF n K)(h64:(cP n r x K).length<64):eD [bt r x,kD K]=p5 (kD (cP n r x K)):=by
 let Pr:List (List Int)->aC->Prop:=λks ρ=>lF n ks/\ ∃kvs s3 s4 s5 s6,ρ=[.v (bt r x),.v (kD K),.ob (.dT kvs),s3,s4,s5,s6]/\q7 kvs ks
 have L:=pI (g:=gN 3) (b:=eL (cV (cC (ae (am cR (ae (ah 3) (ai))) (ai)))) (gN 4) (eL (cV (cC (ae (am cR (ae (ah 3) (ai))) (ai)))) (gN 5) P9)) (h:=aQ) (out:=eI n r x) (P:=Pr) K (λk hk ks ρ hρ=>by
  obtain⟨Sk,kvs,s3,s4,s5,s6,rfl,I⟩:=hρ;obtain⟨o,Oo,rfl⟩:=hK k hk;have lenE: ∀(kvs:j9) (s4 s5 s6:Sl),cC (ae (am cR (ae (ah 3) (ai))) (ai)) [.v (bt r x),.v (kD K),.ob (.dT kvs),.v (ay o),s4,s5,s6]=p5 ((R9 n).map nI):=λkvs s4 s5 s6=>cZ (n:=n) (ak (by rw[eF o _ _ rfl,Oo.len]) rfl) (by grind)
  let Pa:List (List Int)->aC->Prop:=λks ρ=>lF n ks/\ ∃kvs s4 s5 s6,ρ=[.v (bt r x),.v (kD K),.ob (.dT kvs),.v (ay o),s4,s5,s6]/\q7 kvs ks
  have La:=pI (g:=gN 4) (b:=eL (cV (cC (ae (am cR (ae (ah 3) (ai))) (ai)))) (gN 5) P9) (h:=nI) (out:=λa=>((R9 n).filter λb=>decide (a≠b)&&bR r x o a b).map λb=>zs (bU o a b)) (P:=Pa) (R9 n) (λa ha ks ρ hρ=>by
   obtain⟨Sk,kvs,s4,s5,s6,rfl,I⟩:=hρ;rw[SE] at ha
   let Pb:List (List Int)->aC->Prop:=λks ρ=>lF n ks/\ ∃kvs s5 s6,ρ=[.v (bt r x),.v (kD K),.ob (.dT kvs),.v (ay o),.v (nI a),s5,s6]/\q7 kvs ks
   have Lb:=pI (g:=gN 5) (b:=P9) (h:=nI) (out:=λb=>if(χ (a≠b)&&bR r x o a b)=ζ then [zs (bU o a b)] else []) (P:=Pb) (R9 n) (λb hb ks ρ hρ=>by
    obtain⟨Sk,kvs,s5,s6,rfl,I⟩:=hρ;rw[SE] at hb;obtain⟨kvs',s6',e,I'⟩:=IT h2 hn R X (kD K) Oo I Sk ha hb s6;refine⟨_,_,rfl,e,λz hz=>?_,_,_,_,rfl,I'⟩;rcases SL.mp hz with q|q
    ·exact Sk z q
    ·split at q
     ·rw[SI] at q;exact⟨_,Oo.exx ha hb,q⟩
     nofun) ks [.v (bt r x),.v (kD K),.ob (.dT kvs),.v (ay o),.v (nI a),s5,s6] ⟨Sk,_,_,_,rfl,I⟩
   obtain⟨ρ',e,p⟩:=Lb;have fe:((R9 n).flatMap λb=>if(χ (a≠b)&&bR r x o a b)=ζ then [zs (bU o a b)] else [])=((R9 n).filter λb=>decide (a≠b)&&bR r x o a b).map λb=>zs (bU o a b):=by
    generalize R9 n=l
    induction l with
    |nil=>rfl
    |cons b l ih=>
     rw[TU,ih];grind
   rw[fe] at p;obtain⟨Sk',kvs',s5',s6',rfl,I'⟩:=p
   exact⟨_,_,rfl,(cG (bx (lenE _ _ _ _))).trans e,Sk',_,_,_,_,rfl,I'⟩) ks [.v (bt r x),.v (kD K),.ob (.dT kvs),.v (ay o),s4,s5,s6] ⟨Sk,_,_,_,_,rfl,I⟩
  obtain⟨ρ',e,p⟩:=La;have fe:((R9 n).flatMap λa=>((R9 n).filter λb=>decide (a≠b)&&bR r x o a b).map λb=>zs (bU o a b))=eI n r x (zs o):=by
   unfold eI sp;rw[fF,Uo];congr 1;funext a;rw[SJ];rfl
  rw[fe] at p;obtain⟨Sk',kvs',s4',s5',s6',rfl,I'⟩:=p
  refine⟨[.v (bt r x),.v (kD K),.ob (.dT kvs),.v (ay o),s4,s5,s6],_,by rw[kP];rfl,(cG (bx (lenE _ _ _ _))).trans e,Sk',_,_,_,_,_,rfl,I'⟩) [] [.v (bt r x),.v (kD K),.ob (.dT []),.no,.no,.no,.no] ⟨λ_ h=>(nomatch h),_,_,_,_,_,rfl,.start⟩
 obtain⟨ρ',e,Sk,kvs,s3,s4,s5,s6,rfl,I⟩:=L;rw[XE] at I Sk;obtain⟨l,i1,i2,i3,i4,i5⟩:=I.srt;have Sl':lF n l:=λz hz=>Sk z (i2 z hz)
 have nl:l.Nodup:=by
  obtain⟨l',h1,h2,h3⟩:=I.keys;have:=E7 kvs l' h1;nofun
 have kl:=wE hn nl Sl';apply aS (kd:=.n) (n:=7) (t:=iD);unfold iD jm;dsimp only;refine(ax (ρ':=[.v (bt r x),.v (kD K),.ob (.dT []),.no,.no,.no,.no]) rfl).trans ?_
 refine(ax ((cG (bx (dS rfl))).trans e)).trans ?_
 show bH _ [.v (bt r x),.v (kD K),.ob (.dF kvs),s3,s4,s5,s6]=_;refine aU ?_
 have c1:bm 1 (Fx 2) (gN 7) (c8 (MO 2 (ah 7))) (ah 7) [.v (bt r x),.v (kD K),.ob (.dF kvs),s3,s4,s5,s6]=p5 (kD (l.filter λz=>decide (((K.flatMap (eI n r x)).count z) % 2=1))):=by
  refine bB (ds:=l.map aQ) ?_ (by rw[Sm];lia) (fR (h:=aQ) (o:=aQ) l λz hz=>⟨_,rfl,?_,λ_=>rfl⟩)
  ·unfold Fx;show(p5 kvs).bind _=_;nofun
  ·refine dJ ?_
   unfold MO;show(p5 kvs).bind _=_;rw[Ss];show((p5 (aQ z)).bind mi).bind _=_;rw[Ss,show mi (aQ z)=p5 z from fy z,Ss];exact i3 z hz
 refine((bF (ak c1 rfl)).trans ?_);have hl:(l.filter λz=>decide (((K.flatMap (eI n r x)).count z) % 2=1)).length<64:=by
  rw[<-(bw (lt:=aT) _).length_eq,i4];exact h64
 exact(Lf hl λk hk=>vI ⋯ Sl' k (S4.mp hk).1).trans (by rw[i4];rfl)
end
def mV(C:j6):j9:=C.map λp=>(iK p.1,kD p.2)
def NQ(d:Cr×Cr):D:=.tup [kD d.1,kD d.2]
def mU(L:Ld):j9:=L.map λp=>(iK p.1,NQ p.2)
theorem Lp(h:iK a=iK b):a=b:=by
 induction a generalizing b with
 |nil=>cases b with
  |nil=>rfl
  |cons y b=>cases h
 |cons x a c=>cases b with
  |nil=>cases h
  |cons y b=>
   have h':(Yl x:bj)::iK a=Yl y::iK b:=h;grind
theorem vm {β:Type}(g:β->D)(t:List Int): ∀L:List (List Int×β),cv (L.map λp=>(iK p.1,g p.2)) (iK t)=(L.find? λp=>decide (p.1=t)).map λp=>g p.2
 | []=>rfl
 |p::L=>by
  have a:=vm g t L;grind[cv,Lp]
theorem nG(L:Ld)(t:List Int):cv (mU L) (iK t)=(qf L t).map NQ:=by
 unfold mU qf;rw[vm,jdb];rfl
theorem zH(C:j6)(t:List Int):cv (mV C) (iK t)=(Eb C t).map kD:=by
 unfold mV Eb;rw[vm,jdb];rfl
theorem MW(h:cv kvs k=ξ):oT kvs k d=kvs++[(k,d)]:=by
 unfold oT;rw[if_neg];intro q;grind[cv,V5]
theorem KC {e:Cr}(h:e.getLast?=p5 t):aY (kD e) (.int (-1))=p5 (aQ t):=by
 show pi (e.map aQ) (-1)=_;have a:e≠[]:=λq=>by nofun
 have lp:0<e.length:=List.length_pos_iff.mpr a;unfold pi vO;rw[Sm,if_neg (by simp),if_pos (by grind),Ss,show((-1:Int)+(e.length:Int)).toNat=e.length-1 by grind,Us,<-WD,h];rfl
theorem fP(t:List Int):mi (aQ t)=p5 t:=fy t
abbrev qr:FE:=ar aY (ah 5) (zh (aD (.int 1)))
def yh:FT:=d4 (c8 (ah 5)) (Mb 2 qr)
def BX:FS:=aF (eK (gT 2 (gp (gN 6) (gp (gN 7) (kZ)))) (pu (Hx 2 qr)))
 (zA 4 5 (ae (am (nF 2 fH) (ae (ah 4) (ae (ah 6) (ai)))) (ae (am (nF 2 fH) (ae (ah 5) (ae (ah 7) (ai)))) (ai))))
abbrev Dj(A:D)(C:j9)(L:Ld)(s:Sl)(c e:Cr)(a b:Sl):aC:=[.v A,.ob (.dT C),.ob (.dT (mU L)),s,.v (kD c),.v (kD e),a,b]
theorem NA(a:p ρ=p5 ζ)(c:b ρ=.nx ρ2):rD p b (n+1) ρ=rD p b n ρ2:=by
 conv=>lhs;unfold rD
 nofun
theorem wD{n:Nat}(a:p ρ=p5 θ):rD p b (n+1) ρ=.nx ρ:=by
 unfold rD;rw[a]
theorem vh(A:D)(C:j9)(L:Ld)(s:Sl)(c:Cr){e:Cr}(h:e.getLast?=p5 t)(a b:Sl):qr (Dj A C L s c e a b)=p5 (aQ t):=KC h
theorem K1(A:D)(C:j9)(L:Ld)(s:Sl)(c:Cr){e:Cr}(h:e.getLast?=p5 t)(b d:Sl):yh (Dj A C L s c e b d)=p5 (qf L t).isSome:=by
 unfold yh;refine pd ?_ ?_
 ·show J1 (kD e)=p5 ζ;have:e≠[]:=λq=>by nofun
  cases e with
  |nil=>exact absurd rfl this
  |cons a e=>rfl
 ·unfold Mb;show(p5 (mU L)).bind _=_;rw[Ss,vh A C L s c h,Ss,fP,Wa,nG,U4]
theorem xa(A:D)(C:j9)(L:Ld)(s:Sl)(c:Cr)(a b:Sl):yh (Dj A C L s c [] a b)=p5 false:=rfl
theorem JH(A:D)(C:j9)(L:Ld)(s:Sl){c e:Cr}{d:Cr×Cr}(h:e.getLast?=p5 t)(k:qf L t=p5 d)(a b:Sl)(g:fH [kD c,kD d.1]=p5 (kD (sq c d.1)))(i:fH [kD e,kD d.2]=p5 (kD (sq e d.2))):
 BX (Dj A C L s c e a b)=.nx (Dj A C L s (sq c d.1) (sq e d.2) (.v (kD d.1)) (.v (kD d.2))):=by
 unfold BX;have f:eK (gT 2 (gp (gN 6) (gp (gN 7) (kZ)))) (pu (Hx 2 qr)) (Dj A C L s c e a b)=.nx (Dj A C L s c e (.v (kD d.1)) (.v (kD d.2))):=by
  have:Hx 2 qr (Dj A C L s c e a b)=p5 (NQ d):=by
   unfold Hx;show(p5 (mU L)).bind _=_;rw[Ss,vh A C L s c h,Ss,fP,Ss,nG,k];rfl
  unfold eK pu;rw[this];rfl
 refine(ax f).trans ?_
 unfold zA;rw[show ae (am (nF 2 fH) (ae (ah 4) (ae (ah 6) (ai)))) (ae (am (nF 2 fH) (ae (ah 5) (ae (ah 7) (ai)))) (ai)) (Dj A C L s c e (.v (kD d.1)) (.v (kD d.2)))=p5 [kD (sq c d.1),kD (sq e d.2)] from
  ak ((a7 (ds:=[kD c,kD d.1]) (ak rfl (ak rfl rfl)) rfl).trans g) (ak ((a7 (ds:=[kD e,kD d.2]) (ak rfl (ak rfl rfl)) rfl).trans i) rfl)]
 rfl
section
variable {n:Nat}{r x:List Nat}(R:Ord n r)(X:Ord n x)(h2:2<=n)(h5:n<=5)(hx: ∀c,c<n->r.getD c 0≠x.getD c 0)
include R h2 h5
theorem k6 {V:Cr}(c:V.Nodup)(a:lF n V){h:Int×Int}(b: ∀z∈V,jV n r x z=h):V.length<=60:=Fh R h2 h5 c a (g:=h.1) λz hz=>congrArg Prod.fst (b z hz)
theorem Gp(c:Up A)(a:Up B)(b:lF n A)(d:lF n B){h:Int×Int}(f: ∀z∈A,jV n r x z=h)(e: ∀z∈B,jV n r x z=h):fH [kD A,kD B]=p5 (kD (sq A B)):=by
 have i:=k6 R h2 h5 c.2 b f;have g:=k6 R h2 h5 a.2 d e;have j:lF n (h8 A B):=λz hz=>(lr.mp hz).elim (λq=>b z q.1) λq=>d z q.1
 have ls:=k6 R h2 h5 (pH c.2 a.2) j (h:=h) λz hz=>(lr.mp hz).elim (λq=>f z q.1) λq=>e z q.1
 exact E3 (N:=60) (M:=60) ⟨c.2,i,vI ⋯ b⟩ ⟨a.2,g,vI (by grind) d⟩ (by simp) ⋯
include X
theorem yk(A:D)(C:j9)(o:LOk n r x (jV n r x) yO P L)(F:s∉P)(B: ∀z∈P,z∈d6 n)(H:s∈d6 n)(y: ∀q∈L,∀z∈q.2.2,z∈d6 n): ∀(f:Nat) (p:Cr×Cr) (g c b:Sl),RI n r x (jV n r x) yO P L s p->(∀z∈p.2,z∈d6 n)->(∀t,p.2.getLast?=p5 t->Lk (d6 n) t<=f)->
 ∃v u,rD yh BX (f+1) (Dj A C L g p.1 p.2 c b)=.nx (Dj A C L g (xF L f p).1 (xF L f p).2 v u)
 |0,p,g,c,b,Q,i,J=>by
  have V:p.2=[]:=by
   cases e:p.2.getLast? with
   |none=>exact fS e
   |some t=>have:=GN (i t (d7 Q.u2.1 e).1);nofun
  refine⟨c,b,wD ?_⟩;rw[V];simp[xa]
 |f+1,p,g,c,b,Q,i,J=>by
  unfold xF;cases e:p.2.getLast? with
  |none=>
   refine⟨c,b,wD ?_⟩;rw[fS e];simp[xa]
  |some t=>
   dsimp only;have m:=K1 A C L g p.1 e c b;cases k:qf L t with
   |none=>
    rw[k] at m;exact⟨c,b,wD m⟩
   |some d=>
    rw[k] at m;have a:=fI k;have l:=d7 Q.u2.1 e;have W:=Oh;have I:=Q.step W o F l.1 a;obtain⟨h,N,E⟩:=o.hh _ a;have K:h=jV n r x s:=W _ _ ((E t (o.top _ a).1).symm.trans (Q.h2 t l.1));subst K;have w:lF n p.1:=dy.mp λz hz=>(Q.sb z hz).elim (λq=>q▸H) (B z)
    have M:=Gp R h2 h5 Q.u1 (o.up1 _ a) w (dy.mp λz hz=>B z (o.sub _ a z hz)) Q.h1 N;have U:=Gp R h2 h5 Q.u2 (o.up2 _ a) (dy.mp i) (dy.mp (y _ a)) Q.h2 E;rw[NA m (JH A C L g e k c b M U)];refine yk A C o F B H y f (sq p.1 d.1,sq p.2 d.2) g _ _ I (λz hz=>?_) λt' T=>?_
    ·rcases gb.mp hz with q|q
     ·exact i z q.1
     ·exact y _ a z q.1
    ·have j:=d7 I.u2.1 T;have G:=o.top _ a;have S:t'≠t:=λq=>by
      subst q;rcases gb.mp j.1 with q|q
      ·exact q.2 G.1
      ·exact q.2 l.1
     have O:lq t' t:=by
      rcases gb.mp j.1 with q|q
      ·exact l.2 _ q.1
      ·exact G.2 _ q.1
     have:=LH (i t l.1) O S;have:=J t e;lia
end
theorem xK{fv:FE}{ρ:aC}{kvs:j9}{d:D}{ns:List Int}(a:nH i ρ=p5 kvs)(e:fv ρ=p5 d)(f:fk ρ=p5 ns)(c:kvs.length<=1000)(b:cv kvs (iK ns)=ξ):ml i fk fv ρ=.nx (ρ.set i (.ob (.dT (kvs++[(iK ns,d)])))):=by
 unfold ml;rw[a];dsimp only;rw[e];dsimp only;rw[f];dsimp only;rw[if_pos c,MW b]
theorem NF(C:j6)(s:List Int)(c:Cr):mV (C++[(s,c)])=mV C++[(iK s,kD c)]:=by simp[mV]
theorem LM(L:Ld)(t:List Int)(p:Cr×Cr):mU (L++[(t,p)])=mU L++[(iK t,NQ p)]:=by simp[mU]
def A6:FS:=(aF (zA 4 5 (ae (bZ (ae (ah 3) (ai))) (ae (am (nF 2 jd) (ae (ah 0) (ae (bZ (ae (ah 3) (ai))) (ai)))) (ai))))
 (aF (rD yh BX 130)
 (fL (c8 (ah 5)) (ml 2 (dG qr) (dz (ae (ah 4) (ae (ah 5) (ai))))) (ml 1 (dG (ah 3)) (ah 4)))))
theorem QB:dX=aF (F6 1) (aF (F6 2) (aF (eL (cV (d9 (am (nF 1 de) (ae (am cR (ae (ar aY (ah 0) (aD (.int 0))) (ai))) (ai))))) (gN 3) A6) (IU 1 (IU 2 (bH (dz (ae (ah 1) (ae (ah 2) (ai))))))))):=rfl
section
variable {n:Nat}{r x:List Nat}(R:Ord n r)(X:Ord n x)(h2:2<=n)(h5:n<=5)(hx: ∀c,c<n->r.getD c 0≠x.getD c 0)
include R X h2 h5 hx
abbrev Ia(r x:List Nat)(st:j6×Ld)(b e c a d:Sl):aC:=[.v (bt r x),.ob (.dT (mV st.1)),.ob (.dT (mU st.2)),b,e,c,a,d]
theorem Ir {P T:Cr}{st:j6×Ld}(m:d6 n=P++s::T)(E:EI n r x (d6 n) (jV n r x) yO P st.1 st.2)(y C g b:Sl): ∃o D J A,A6 (Ia r x st (.v (aQ s)) y C g b)=.nx (Ia r x (FW n r x 129 st s) (.v (aQ s)) o D J A):=by
 have W:=tW R X h2 h5 hx;have O:=W.up.2;rw[m,Th] at O;have F:s∈d6 n:=by grind
 have PS: ∀z∈P,z∈d6 n:=λz hz=>by rw[m];exact Tq _ hz
 have u:s∉P:=λq=>O.2.2 s q s SB rfl
 have lS:(d6 n).length<=120:=by rw[Sm];exact je n h5
 have M:RI n r x (jV n r x) yO P st.2 s ([s],cP n r x [s]):=⟨z6 s,qW _,rfl,by simp,λz hz=>.inl (by simpa using hz),λz hz=>by nofun,λz hz=>W.bh s F z hz,[],ei.nil _,λz=>by simp⟩
 have f:lF n [s]:=dy.mp λz hz=>by rw[SI] at hz;grind
 have B: ∀z∈cP n r x [s],z∈d6 n:=W.bs [s] (dy.mpr f)
 have bl:(cP n r x [s]).length<=60:=k6 R h2 h5 (x:=x) (qW _).2 (dy.mp B) (h:=yO (jV n r x s)) λz hz=>W.bh s F z hz
 have N: ∀t,Lk (d6 n) t<=129:=λt=>Tk (UP _ _) ⋯
 have i:zA 4 5 (ae (bZ (ae (ah 3) (ai))) (ae (am (nF 2 jd) (ae (ah 0) (ae (bZ (ae (ah 3) (ai))) (ai)))) (ai))) (Ia r x st (.v (aQ s)) y C g b)=.nx (Dj (bt r x) (mV st.1) st.2 (.v (aQ s)) [s] (cP n r x [s]) g b):=by
  unfold zA;rw[show ae (bZ (ae (ah 3) (ai))) (ae (am (nF 2 jd) (ae (ah 0) (ae (bZ (ae (ah 3) (ai))) (ai)))) (ai)) (Ia r x st (.v (aQ s)) y C g b)=p5 [kD [s],kD (cP n r x [s])] from
   ak rfl (ak ((a7 (ds:=[bt r x,kD [s]]) (ak rfl (ak rfl rfl)) rfl).trans (CA h2 h5 R X f (by simp) ⋯)) rfl)]
  rfl
 obtain⟨w,K,j⟩:=yk R X h2 h5 (bt r x) (mV st.1) E.lo u PS F E.le 129 ([s],cP n r x [s]) (.v (aQ s)) g b M B λt _=>N t
 obtain⟨Q,fin⟩:=ww (S:=d6 n) Oh E.lo u 129 _ M B E.le λt _=>N t
 unfold A6;rw[ax i,ax j];have I:FW n r x 129 st s=match (xF st.2 129 ([s],cP n r x [s])).2.getLast? with
  |none=>(st.1++[(s,(xF st.2 129 ([s],cP n r x [s])).1)],st.2)
  |some t=>(st.1,st.2++[(t,xF st.2 129 ([s],cP n r x [s]))]):=rfl
 generalize xF st.2 129 ([s],cP n r x [s])=p at Q fin I⊢;have ln:=E.ln;have lP:P.length<=120:=by
  have:=congrArg Uk m;rw[SG] at this;omega
 cases e:p.2.getLast? with
 |none=>
  have V:=fS e;rw[I,e];dsimp only;have G:cv (mV st.1) (iK s)=none:=by
   rw[zH];cases k:Eb st.1 s with
   |none=>rfl
   |some c=>
    unfold Eb at k;obtain⟨q,L,_⟩:=SO.mp k;have Z:q.1=s:=by simpa using jbM L
    exact absurd (E.cs.subset (Z▸S6 (WA L))) u
  have H:(mV st.1).length<=1000:=by unfold mV;rw[Sm];omega
  refine⟨.v (kD p.1),.v (kD p.2),w,K,(lB (p:=c8 (ah 5)) (by rw[V];rfl)).trans ((xK (kvs:=mV st.1) (d:=kD p.1) (ns:=s) rfl rfl (fP s) H G).trans ?_)⟩;simp[NF]
 |some t=>
  have U:t∉st.2.map (·.1):=by
   rcases fin with q|⟨t',i,j⟩
   ·rw[q] at e;cases e
   ·rw[e] at i;cases i;exact j
  rw[I,e];dsimp only;have G:cv (mU st.2) (iK t)=none:=by
   rw[nG];cases k:qf st.2 t with
   |none=>rfl
   |some d=>exact absurd (S6 (fI k)) U
  have H:(mU st.2).length<=1000:=by unfold mU;rw[Sm];omega
  have Y:c8 (ah 5) (Dj (bt r x) (mV st.1) st.2 (.v (aQ s)) p.1 p.2 w K)=p5 true:=by
   show J1 (kD p.2)=p5 ζ;cases k:p.2 with
   |nil=>rw[k] at e;cases e
   |cons a l=>rfl
  refine⟨.v (kD p.1),.v (kD p.2),w,K,(lZ Y).trans ((xK (kvs:=mU st.2) (d:=NQ p) (ns:=t) rfl (cE (ds:=[kD p.1,kD p.2]) rfl (by simp)) (show(qr _).bind mi=p5 t by rw[vh _ _ _ _ _ e,Ss,fP]) H G).trans ?_)⟩;simp[LM]
theorem B5: ∀(T P:Cr) (st:j6×Ld) (f a b d c:Sl),d6 n=P++T->EI n r x (d6 n) (jV n r x) yO P st.1 st.2-> ∃j g i k h,c9 (gN 3) A6 (T.map aQ) (Ia r x st f a b d c)=.nx (Ia r x (T.foldl (FW n r x 129) st) j g i k h)
 | [],P,st,f,a,b,d,c,_,_=>⟨f,a,b,d,c,rfl⟩
 |s::T,P,st,f,a,b,d,c,l,E=>by
  obtain⟨C,A,w,y,q⟩:=Ir R X h2 h5 hx l E a b d c;have W:=tW R X h2 h5 hx;have m:(d6 n).length<=129:=by rw[Sm];have:=je n h5;grind
  have z:=E.step W l m;obtain⟨u,B,t,o,p,e⟩:=B5 T (P++[s]) (FW n r x 129 st s) (.v (aQ s)) C A w y (by nofun) z;refine⟨u,B,t,o,p,?_⟩;rw[So,V7];exact(bT (ρ1:=Ia r x st (.v (aQ s)) a b d c) rfl q).trans e
abbrev xy(n:Nat)(r x:List Nat):j6×Ld:=(d6 n).foldl (FW n r x 129) ([],[])
theorem GH:EI n r x (d6 n) (jV n r x) yO (d6 n) (xy n r x).1 (xy n r x).2:=by
 have a:(d6 n).length<=129:=by rw[Sm];have:=je n h5;omega
 exact EI.all (tW R X h2 h5 hx) a (d6 n) [] ([],[]) rfl EI.start
theorem OJ:cF [bt r x]=p5 (.tup [cW (mV (xy n r x).1),cW (mU (xy n r x).2)]):=by
 obtain⟨a,f,g,c,h,e⟩:=B5 R X h2 h5 hx (d6 n) [] ([],[]) .no .no .no .no .no rfl EI.start;apply aS (kd:=.s) (n:=8) (t:=dX);rw[QB];refine(ax (ρ':=[.v (bt r x),.ob (.dT []),.no,.no,.no,.no,.no,.no]) rfl).trans ?_
 refine(ax (ρ':=Ia r x ([],[]) .no .no .no .no .no) rfl).trans ?_
 have b:cV (d9 (am (nF 1 de) (ae (am cR (ae (ar aY (ah 0) (aD (.int 0))) (ai))) (ai)))) (Ia r x ([],[]) .no .no .no .no .no)=p5 ((d6 n).map aQ,Ia r x ([],[]) .no .no .no .no .no):=bx (dS ((a7 (ds:=[nI n]) (ak (R.len▸eF r _ _ rfl) rfl) rfl).trans ((A1 ⋯).trans (by rw[zF]))));refine(ax ((cG b).trans e)).trans ?_
 show bH (dz (ae (ah 1) (ae (ah 2) (ai)))) [.v (bt r x),.v (cW (mV (xy n r x).1)),.v (cW (mU (xy n r x).2)),a,f,g,c,h]=_;refine aU (d:=.tup [cW (mV (xy n r x).1),cW (mU (xy n r x).2)]) ?_
 rfl
end
theorem gD(kvs:j9):vX (cW kvs)=p5 kvs:=by
 show p5 ((kvs.map (·.1)).zip (kvs.map (·.2)))=_;rw[yU]
theorem Fv(L:Ld)(s:List Int):(qf L s).isSome=χ (s∈L.map (·.1)):=by
 grind[qf]
theorem M1(C:j6)(s:List Int):(Eb C s).isSome=χ (s∈C.map (·.1)):=by
 grind[Eb]
theorem KU(C:j6):ey (mV C)=p5 (C.map (·.1)):=E7 _ _ (by simp[mV])
theorem JW(L:Ld):ey (mU L)=p5 (L.map (·.1)):=E7 _ _ (by simp[mU])
def o5(C:j6)(L:Ld):Cr:=(C.map (·.1)).filter λs=>decide (s∉L.map (·.1))
theorem Gn {C:j6}(a:C.length<=1000):gk [cW (mV C),cW (mU L)]=p5 (kD (o5 C L)):=by
 apply aS (kd:=.n) (n:=2) (t:=gc) (ρ:=[.v (cW (mV C)),.v (cW (mU L))]);unfold gc hU;dsimp only;refine aU (bB (ds:=(C.map (·.1)).map aQ) ?_ (by nofun) (fR (h:=aQ) (o:=aQ) (C.map (·.1)) λs b=>⟨[.v (cW (mV C)),.v (cW (mU L)),.v (aQ s)],rfl,?_,λ_=>rfl⟩))
 ·unfold Kp;show((p5 (cW (mV C))).bind vX).bind _=_;simp[gD,KU]
 ·unfold oU;show(mi (aQ s)).bind (λk=>((p5 (cW (mU L))).bind vX).map λkvs=>if ζ then !(cv kvs (iK k)).isSome else(cv kvs (iK k)).isSome)=_;rw[fP,Ss,Ss,gD,Wa,nG,U4,Fv];simp
def Fk(kvs:uJ)(k:List bj):Option (List D):=(kvs.find? λz=>decide (z.1=k)).map (·.2)
theorem wQ(k a:List bj)(d:D): ∀kvs:uJ,Fk (dv kvs k d) a=if a=k then p5 ((Fk kvs k).getD []++[d]) else Fk kvs a
 | []=>by
   unfold dv Fk;rw[Vr]
   by_cases e:a=k
   ·nofun
   ·rw[if_neg e,zq (show¬(k,[d]).1=a from λq=>e q.symm)]
   try rfl
 |z::r=>by
  have b:=wQ k a d r;unfold dv
  by_cases e:z.1=k
  ·rw[if_pos e];unfold Fk;grind
  ·rw[if_neg e];unfold Fk at b⊢;grind
theorem xV(k:List bj)(d:D){N:Nat}: ∀kvs:uJ,kvs.length<=N->(∀z∈kvs,z.2.length<=N)->(dv kvs k d).length<=N+1/\ ∀z∈dv kvs k d,z.2.length<=N+1
 | [],_,_=>⟨by simp[dv],λz hz=>by grind[dv]⟩
 |z::r,b,c=>by
  unfold dv
  by_cases e:z.1=k
  ·grind
  ·rw[if_neg e];cases N with
   |zero=>nofun
   |succ N=>
    have q:=xV k d (N:=N+1) r (Tk (XB _) b) λw hw=>c w (Sx _ hw)
    have g:(dv r k d).length<=r.length+1:=by
     have: ∀r:uJ,(dv r k d).length<=r.length+1:=λr=>by
      induction r with
      |nil=>simp[dv]
      |cons a r f=>
       unfold dv;grind
     exact this r
    grind
structure HI(hk:List Int->List Int)(P:Cr)(kvs:uJ):Prop where
 fn: ∀h,(Fk kvs (iK h)).getD []=(P.filter λs=>decide (hk s=h)).map aQ
 ln:kvs.length<=P.length
 ll: ∀z∈kvs,z.2.length<=P.length
 is: ∀s∈P,(Fk kvs (iK (hk s))).isSome=ζ
theorem HI.step(I:HI hk P kvs)(s:List Int):HI hk (P++[s]) (dv kvs (iK (hk s)) (aQ s)):=by
 have l:=xV (iK (hk s)) (aQ s) kvs I.ln I.ll;refine⟨λh=>?_,by grind,λz hz=>by rw[SG];exact l.2 z hz,λu a=>?_⟩
 ·rw[wQ,Yh,SZ]
  by_cases e:hk s=h
  ·subst e;rw[if_pos rfl,Option.getD_some,I.fn,U6 (by simp)];rfl
  ·rw[if_neg λq=>e (Lp q).symm,I.fn,WZ (by simpa using e)];simp
 ·rw[wQ]
  by_cases e:iK (hk u)=iK (hk s)
  ·rw[if_pos e];rfl
  ·rw[if_neg e];rcases SL.mp a with q|q
   ·exact I.is u q
   grind
def ye(n m:Nat)(r x:List Nat)(s:List Int):List Int:=[kH n r (uz s),kH n r (uz s) -kH n x (uz s) -n+m]
theorem LN:ye n m r x s=ye n m r x t↔jV n r x s=jV n r x t:=by
 unfold ye jV;nofun
theorem zN(k:List bj): ∀kvs:uJ,cv (kvs.map λz=>(z.1,D.lst z.2)) k=(Fk kvs k).map D.lst
 | []=>rfl
 |z::r=>by
  have a:=zN k r;grind[cv,Fk]
section
variable {n:Nat}{r x:List Nat}{S:Nat->Nat}(R:Ord n r)(X:Ord n x)(H:Sg n r x S)(h2:2<=n)(h5:n<=5)
include R X H h2 h5
noncomputable abbrev A9(n:Nat)(S:Nat->Nat):Nat:=((R9 n).filter (qN S)).length
theorem Ck(O:Ord n o):cN [bt r x,ay o]=p5 (aQ (ye n (A9 n S) r x (zs o))):=by
 have e:aQ (ye n (A9 n S) r x (zs o))=.tup [.int (kH n r o),.int (kH n r o-kH n x o-n+(A9 n S:Nat))]:=by
  unfold ye;rw[fF];rfl
 rw[e];exact aS (kd:=.s) (n:=2) (t:=tI) (aU (cE (ak ((a7 (ds:=[bt r x,ay o]) rfl rfl).trans (Fe R O ⋯)) (ak ((a7 (ds:=[bt r x,ay o]) rfl rfl).trans (Kh R X H ⋯ O)) rfl)) (by simp)))
def Bf:FS:=Bx 1 (dG (am (nF 2 cN) (ae (ah 0) (ae (ah 2) (ai))))) (ah 2)
theorem JX {P:Cr}(I:HI (ye n (A9 n S) r x) P kvs)(b:P.length<=900)(a:s∈d6 n):Bf [.v (bt r x),.ob (.dN kvs),.v (aQ s)]=.nx [.v (bt r x),.ob (.dN (dv kvs (iK (ye n (A9 n S) r x s)) (aQ s))),.v (aQ s)]:=by
 obtain⟨o,O,rfl⟩:=ik.mp a;unfold Bf Bx;have fk:dG (am (nF 2 cN) (ae (ah 0) (ae (ah 2) (ai)))) [.v (bt r x),.ob (.dN kvs),.v (aQ (zs o))]=p5 (ye n (A9 n S) r x (zs o)):=by
  unfold dG;rw[show am (nF 2 cN) (ae (ah 0) (ae (ah 2) (ai))) [.v (bt r x),.ob (.dN kvs),.v (aQ (zs o))]=p5 (aQ (ye n (A9 n S) r x (zs o))) from(a7 (ds:=[bt r x,ay o]) (ak rfl (ak (by rw[kP];rfl) rfl)) rfl).trans (Ck R X H h2 h5 O),Ss];rfl
 rw[fk];show(if kvs.length<=1000/\ ∀z∈kvs,z.2.length<=1000 then _ else _)=_;rw[if_pos ⟨Tk I.ln ⋯,λz hz=>Tk (I.ll z hz) ⋯⟩];rfl
theorem Cd: ∀(T P:Cr) (kvs:uJ) (c:Sl),(∀z∈T,z∈d6 n)->HI (ye n (A9 n S) r x) P kvs->P.length+T.length<=900-> ∃a b,c9 (gN 2) Bf (T.map aQ) [.v (bt r x),.ob (.dN kvs),c]=.nx [.v (bt r x),.ob (.dN a),b]/\HI (ye n (A9 n S) r x) (P++T) a
 | [],P,kvs,c,_,I,_=>⟨kvs,c,rfl,by nofun⟩
 |s::T,P,kvs,c,d,I,f=>by
  rw[SN] at f;obtain⟨a,b,e,g⟩:=Cd T (P++[s]) _ (.v (aQ s)) (λz hz=>d z (Sx _ hz)) (I.step s) (by rw[SG,TX];lia);refine⟨a,b,?_,by nofun⟩;rw[So];exact(bT (ρ1:=[.v (bt r x),.ob (.dN kvs),.v (aQ s)]) rfl (JX R X H h2 h5 I ⋯ (d s SB))).trans e
theorem OR: ∃kvs,kN [bt r x]=p5 (cW (kvs.map λz=>(z.1,D.lst z.2)))/\HI (ye n (A9 n S) r x) (d6 n) kvs:=by
 have c:(d6 n).length<=120:=by rw[Sm];exact je n h5
 obtain⟨kvs,a,e,I⟩:=Cd R X H h2 h5 (d6 n) [] [] .no (λz hz=>hz) ⟨λh=>rfl,Sn _,nofun,nofun⟩ (by grind);rw[XE] at I;refine⟨kvs,?_,I⟩;apply aS (kd:=.s) (n:=3) (t:=kS);unfold kS m4;dsimp only;refine(ax (ρ':=[.v (bt r x),.ob (.dT []),.no]) rfl).trans ?_
 have b:cV (d9 (am (nF 1 de) (ae (am cR (ae (ar aY (ah 0) (aD (.int 0))) (ai))) (ai)))) [.v (bt r x),.ob (.dN []),.no]=p5 ((d6 n).map aQ,[.v (bt r x),.ob (.dN []),.no]):=bx (dS ((a7 (ds:=[nI n]) (ak (R.len▸eF r _ _ rfl) rfl) rfl).trans ((A1 ⋯).trans (by rw[zF]))));have q:HS 1 (eL (cV (d9 (am (nF 1 de) (ae (am cR (ae (ar aY (ah 0) (aD (.int 0))) (ai))) (ai))))) (gN 2) Bf) [.v (bt r x),.ob (.dT []),.no]=.nx [.v (bt r x),.ob (.dN kvs),a]:=((cG b).trans e)
 refine(ax q).trans ?_
 show bH (ah 1) [.v (bt r x),.v (cW (kvs.map λz=>(z.1,D.lst z.2))),a]=_;exact aU rfl
end
theorem MT {A B:Cr}(c:A.Nodup)(a:B.Nodup)(b:A.length+B.length<=1000):eA [kD A,kD B]=p5 (.bl (χ (ip A B=1))):=by
 apply aS (kd:=.s) (n:=2) (t:=iw) (ρ:=[.v (kD A),.v (kD B)]);unfold iw jl;dsimp only;refine aU ?_
 have q:AK 0 1 [.v (kD A),.v (kD B)]=p5 (.int (A.filter λk=>decide (k∈B)).length):=by
  unfold AK;show(jo (A.map aQ)).bind _=_;rw[jk,Ss,jk,Ss,if_pos ⟨⟨c,a⟩,b⟩]
 refine((aw ((aw q (y:=.int 2) rfl).trans (ce (by simp))) (y:=.int 1) rfl).trans ?_);rw[gM (by rw[df];simp),gv];congr 2;unfold ip;rw[decide_eq_decide];grind
def Cs:FS:=fL (d4 (bO (ar CT (ah 5) (ah 0))) (oU θ (dG (ah 5)) (ah 2))) (aF (bp 6 (Lq (oU θ (dG (ah 5)) (ah 3)) (ar aY (jX (ah 3) (dG (ah 5))) (aD (.int 1))) (jX (ah 2) (dG (ah 5)))))
 (fL (c8 (Qc (am (nF 2 eA) (ae (dZ 4) (ae (ah 6) (ai)))))) (dB (a9 4 1 oY (cV (ae (ah 5) (ai))))) (dc))) (dc)
abbrev mf(s0:List Int)(T0:Cr)(C:j6)(L:Ld)(a:Cr)(b c:Sl):aC:=[.v (aQ s0),.v (kD T0),.v (cW (mV C)),.v (cW (mU L)),.own (a.map aQ),b,c]
theorem O4(a b:List Int):CT (aQ a) (aQ b)=p5 (.bl (aT b a)):=by
 simp[CT,aQ,fy,vF]
theorem Oc(C:j6)(a:ah i ρ=p5 (aQ s))(b:ah j ρ=p5 (cW (mV C))):oU θ (dG (ah i)) (ah j) ρ=p5 (χ (s∈C.map (·.1))):=by
 unfold oU dG;rw[a,Ss,fP,Ss,b,Ss,gD,Wa,zH,U4,M1];rfl
theorem Oa(L:Ld)(b:ah i ρ=p5 (aQ s))(a:ah j ρ=p5 (cW (mU L))):oU θ (dG (ah i)) (ah j) ρ=p5 (χ (s∈L.map (·.1))):=by
 unfold oU dG;grind[fP,gD,nG,Fv]
theorem Lm(a:ah i ρ=p5 (aQ s))(b:ah j ρ=p5 (cW (mV C)))(h:Eb C s=p5 c):jX (ah j) (dG (ah i)) ρ=p5 (kD c):=by
 unfold jX dG;grind[gD,fP,zH]
theorem Ls(a:ah i ρ=p5 (aQ s))(b:ah j ρ=p5 (cW (mU L)))(h:qf L s=p5 d):jX (ah j) (dG (ah i)) ρ=p5 (NQ d):=by
 grind[jX,dG,gD,fP,nG]
section
variable {C:j6}{L:Ld}(hc: ∀s∈C.map (·.1),(jM C L s).Nodup/\(jM C L s).length<=120)
include hc
theorem GW {a:Cr}{s:List Int}(r:a.Nodup)(u:a.length<=300)(b:Sl): ∃n,Cs (mf s0 T0 C L a (.v (aQ s)) b)=.nx (mf s0 T0 C L (if aT s0 s=ζ/\s∈C.map (·.1)/\ip a (jM C L s)=1 then a++[s] else a) (.v (aQ s)) n):=by
 have l:bO (ar CT (ah 5) (ah 0)) (mf s0 T0 C L a (.v (aQ s)) b)=p5 (aT s0 s):=bN ((aw rfl rfl).trans (O4 s s0));have g:oU θ (dG (ah 5)) (ah 2) (mf s0 T0 C L a (.v (aQ s)) b)=p5 (χ (s∈C.map (·.1))):=Oc C rfl rfl;unfold Cs
 by_cases c:aT s0 s=ζ/\s∈C.map (·.1)
 ·obtain⟨f,m⟩:=c;rw[f] at l;rw[zm m] at g;rw[lZ (pd l g)];obtain⟨o,t⟩:=hc s m;have p:bp 6 (Lq (oU θ (dG (ah 5)) (ah 3)) (ar aY (jX (ah 3) (dG (ah 5))) (aD (.int 1))) (jX (ah 2) (dG (ah 5)))) (mf s0 T0 C L a (.v (aQ s)) b)=.nx (mf s0 T0 C L a (.v (aQ s)) (.v (kD (jM C L s)))):=by
   refine(bf (d:=kD (jM C L s)) ?_).trans rfl;have i:oU θ (dG (ah 5)) (ah 3) (mf s0 T0 C L a (.v (aQ s)) b)=p5 (χ (s∈L.map (·.1))):=Oa L rfl rfl;unfold jM;cases k:qf L s with
   |some d=>
    rw[zm (S6 (fI k))] at i;rw[PB i];exact(aw (Ls rfl rfl k) rfl).trans rfl
   |none=>
    rw[zq (pF k)] at i;rw[Pt i];obtain⟨c,e,_⟩:=iz m;dsimp only;rw[e];exact Lm rfl rfl e
  rw[ax p];have h:c8 (Qc (am (nF 2 eA) (ae (dZ 4) (ae (ah 6) (ai))))) (mf s0 T0 C L a (.v (aQ s)) (.v (kD (jM C L s))))=p5 (χ (ip a (jM C L s)=1)):=by
   refine dJ ?_
   unfold Qc;rw[show am (nF 2 eA) (ae (dZ 4) (ae (ah 6) (ai))) (mf s0 T0 C L a (.v (aQ s)) (.v (kD (jM C L s))))=p5 (.bl (χ (ip a (jM C L s)=1))) from(a7 (ds:=[kD a,kD (jM C L s)]) (ak rfl (ak rfl rfl)) rfl).trans (MT r o ⋯)];rfl
  by_cases j:ip a (jM C L s)=1
  ·rw[zm j] at h;rw[lZ h,if_pos ⟨f,m,j⟩];refine⟨.v (kD (jM C L s)),?_⟩;refine(AB (b0:=a.map aQ) (bs:=a.map aQ) (d:=aQ s) (ρ1:=mf s0 T0 C L a (.v (aQ s)) (.v (kD (jM C L s)))) rfl rfl rfl (by grind)).trans ?_
   show Out.nx [.v (aQ s0),.v (kD T0),.v (cW (mV C)),.v (cW (mU L)),.own (a.map aQ++[aQ s]),.v (aQ s),.v (kD (jM C L s))]=_;simp
  ·rw[zq j] at h;rw[lB h,if_neg λq=>j q.2.2];exact⟨.v (kD (jM C L s)),rfl⟩
 ·rw[if_neg λq=>c ⟨q.1,q.2.1⟩];refine⟨b,(lB ?_).trans rfl⟩
  by_cases f:aT s0 s=ζ
  ·rw[f] at l;rw[zq λq=>c ⟨f,q⟩] at g;exact pd l g
  ·grind[d4]
theorem yv: ∀(T Q d:Cr) (i g:Sl),(Q++T).Nodup->d.Nodup->(∀z∈d,z=s0\/z∈Q)->d.length+T.length<=300-> ∃k l,c9 (gN 5) Cs (T.map aQ) (mf s0 T0 C L d i g)=.nx (mf s0 T0 C L (Ee C L s0 T d) k l)
 | [],Q,d,i,g,_,_,_,_=>⟨i,g,rfl⟩
 |s::T,Q,d,i,g,h,o,E,x=>by
  rw[SN] at x;obtain⟨y,e⟩:=GW (s0:=s0) (T0:=T0) hc (s:=s) o ⋯ g;have B:=Th.mp h;have D:Q++s::T=(Q++[s])++T:=by simp
  have j: ∀f,f=(if aT s0 s=ζ/\s∈C.map (·.1)/\ip d (jM C L s)=1 then d++[s] else d)->f.Nodup/\(∀z∈f,z=s0\/z∈Q++[s])/\f.length<=d.length+1:=λf m=>by
   by_cases c:aT s0 s=ζ/\s∈C.map (·.1)/\ip d (jM C L s)=1
   ·rw[if_pos c] at m;subst m;have p:s∉d:=λq=>(E s q).elim (λe=>(He c.1).2 e.symm) λq=>B.2.2 s q s SB rfl
    refine⟨?_,λz hz=>?_,by simp⟩
    ·rw[Th];exact⟨o,by simp,λa w b n F=>by rw[SI] at n;exact p (n▸F▸w)⟩
    ·grind
   ·grind
  obtain⟨r,t,H⟩:=j _ rfl;obtain⟨G,u,A⟩:=yv T (Q++[s]) _ (.v (aQ s)) y (D▸h) r t (by grind);refine⟨G,u,?_⟩;rw[So];refine(bT (ρ1:=mf s0 T0 C L d (.v (aQ s)) g) rfl e).trans (A.trans ?_);unfold Ee
  by_cases c:aT s0 s=ζ/\s∈C.map (·.1)/\ip d (jM C L s)=1
  ·rw[if_pos c,if_pos c];cases T<;>rfl
  ·rw[if_neg c,if_neg c];cases T<;>rfl
theorem MZ {T:Cr}(a:T.Nodup)(c:T.length<=200):iA [aQ s0,kD T,cW (mV C),cW (mU L)]=p5 (kD (Ee C L s0 T [s0])):=by
 obtain⟨b,d,e⟩:=yv (s0:=s0) (T0:=T) hc T [] [s0] .no .no (by nofun) (by simp) (λz hz=>.inl (by simpa using hz)) (by simp;lia);apply aS (kd:=.n) (n:=7) (t:=kT);rw[show kT=aF (dW 4 (bZ (ae (ah 0) (ai)))) (aF (eL (cV (d9 (ah 1))) (gN 5) Cs) (zI 4)) from rfl];refine(ax (ρ':=mf s0 T C L [s0] .no .no) rfl).trans ?_
 refine(ax ((cG (bx (dS rfl))).trans e)).trans ?_
 rfl
end
section
variable {n:Nat}{r x:List Nat}(R:Ord n r)(X:Ord n x)(h2:2<=n)(h5:n<=5)(hx: ∀c,c<n->r.getD c 0≠x.getD c 0)
include R X h2 h5 hx
theorem mY {V:Cr}(a:V.Nodup)(h: ∀z∈V,z∈d6 n):V.length<=120:=by
 have:=VN a h;rw[Sm] at this;exact Tk this (je n h5)
theorem KH {C:j6}(E:EI n r x (d6 n) (jV n r x) yO (d6 n) C L): ∀s∈C.map (·.1),(jM C L s).Nodup/\(jM C L s).length<=120:=λs a=>by
 unfold jM;cases k:qf L s with
 |some d=>
  have m:=fI k;exact⟨(E.lo.up2 _ m).2,mY R X h2 h5 hx (E.lo.up2 _ m).2 (E.le _ m)⟩
 |none=>
  obtain⟨c,e,m⟩:=iz a;rw[e];exact⟨(E.c2 _ m).2,mY R X h2 h5 hx (E.c2 _ m).2 (E.c3 _ m)⟩
abbrev vK(n:Nat)(r x:List Nat)(C:j6)(L:Ld)(s:List Int):Cr:=Ee C L s ((d6 n).filter λz=>decide (jV n r x z=jV n r x s)) [s]
abbrev fV(n:Nat)(r x:List Nat)(C:j6)(L:Ld)(s:List Int):D:=.tup [kD ((Eb C s).getD []),kD (vK n r x C L s)]
theorem Gm:dD [bt r x]=p5 (.tup [.lst ((o5 (xy n r x).1 (xy n r x).2).map (fV n r x (xy n r x).1 (xy n r x).2)),.lst ((xy n r x).2.map λp=>.tup [kD p.2.1,aQ p.1])]):=by
 have E:=GH R X h2 h5 hx;have b:=OJ R X h2 h5 hx;generalize W:(xy n r x).1=C at E b⊢;generalize V:(xy n r x).2=L at E b⊢;obtain⟨S,H⟩:=N6 R X;obtain⟨kvs,P,I⟩:=OR R X H h2 h5;have U:(d6 n).length<=120:=by rw[Sm];exact je n h5
 have Y:C.length<=120/\L.length<=120:=by have:=E.ln;lia
 have Q:=KH R X h2 h5 hx E
 let A:D:=cW (mV C)
 let B:D:=cW (mU L)
 let G:D:=cW (kvs.map λz=>(z.1,D.lst z.2))
 apply aS (kd:=.s) (n:=5) (t:=gQ) (ρ:=[.v (bt r x),.v A,.v B,.v G,.v (.lst ((o5 C L).map (fV n r x C L)))]);unfold gQ jf;dsimp only;have N:eK (gT 2 (gp (gN 1) (gp (gN 2) (kZ)))) (pu (am (nF 1 cF) (ae (ah 0) (ai)))) (mG 5 [bt r x])=.nx [.v (bt r x),.v A,.v B,.no,.no]:=by
  unfold eK pu;rw[show am (nF 1 cF) (ae (ah 0) (ai)) (mG 5 [bt r x])=p5 (.tup [A,B]) from(a7 (ds:=[bt r x]) rfl rfl).trans b];rfl
 have l:bp 3 (am (nF 1 kN) (ae (ah 0) (ai))) [.v (bt r x),.v A,.v B,.no,.no]=.nx [.v (bt r x),.v A,.v B,.v G,.no]:=(bf (d:=G) ((a7 (ds:=[bt r x]) rfl rfl).trans P)).trans rfl;have y:bp 4 (bm 1 (d9 (am (nF 2 gk) (ae (ah 1) (ae (ah 2) (ai))))) (gN 5) (dH) (dz (ae (jX (ah 1) (dG (ah 5))) (ae (am (nF 4 iA) (ae (ah 5) (ae (jX (ah 3) (dG (am (nF 2 cN) (ae (ah 0) (ae (ah 5) (ai)))))) (ae (ah 1) (ae (ah 2) (ai)))))) (ai))))) [.v (bt r x),.v A,.v B,.v G,.no]=.nx [.v (bt r x),.v A,.v B,.v G,.v (.lst ((o5 C L).map (fV n r x C L)))]:=by
  refine(bf (d:=.lst ((o5 C L).map (fV n r x C L))) (bB (ds:=(o5 C L).map aQ) (dS ((a7 (ds:=[A,B]) rfl rfl).trans (Gn (by omega)))) ?_ (bM (h:=aQ) (o:=fV n r x C L) (o5 C L) λs m=>⟨[.v (bt r x),.v A,.v B,.v G,.no,.v (aQ s)],rfl,?_⟩))).trans rfl
  ·rw[Sm];unfold o5;grind
  ·have e:s∈C.map (·.1):=(S4.mp m).1;have i:s∈d6 n:=E.cs.subset e;obtain⟨c,f,_⟩:=iz e;obtain⟨o,O,j⟩:=ik.mp i;have M:dG (am (nF 2 cN) (ae (ah 0) (ae (ah 5) (ai)))) [.v (bt r x),.v A,.v B,.v G,.no,.v (aQ s)]=p5 (ye n (A9 n S) r x s):=by
    unfold dG;rw[show am (nF 2 cN) (ae (ah 0) (ae (ah 5) (ai))) [.v (bt r x),.v A,.v B,.v G,.no,.v (aQ s)]=p5 (aQ (ye n (A9 n S) r x s)) from(a7 (ds:=[bt r x,ay o]) (ak rfl (ak (by rw[kP,<-j];rfl) rfl)) rfl).trans (by rw[Ck R X H h2 h5 O,j]),Ss];rfl
   let T:=(d6 n).filter λz=>decide (jV n r x z=jV n r x s)
   have u:jX (ah 3) (dG (am (nF 2 cN) (ae (ah 0) (ae (ah 5) (ai))))) [.v (bt r x),.v A,.v B,.v G,.no,.v (aQ s)]=p5 (kD T):=by
    unfold jX;rw[M];show((p5 G).bind vX).bind _=_;rw[Ss,gD,Ss,Ss,zN];have F:=I.is s i;have i2:=I.fn (ye n (A9 n S) r x s);cases k:Fk kvs (iK (ye n (A9 n S) r x s)) with
    |none=>rw[k] at F;nofun
    |some ds=>
     rw[k] at i2;have i2:ds=_:=i2;grind[LN]
   have J:T.Nodup:=(tW R X h2 h5 hx).up.2.filter _;have w:T.length<=200:=Tk (UP _ _) ⋯;have a:am (nF 4 iA) (ae (ah 5) (ae (jX (ah 3) (dG (am (nF 2 cN) (ae (ah 0) (ae (ah 5) (ai)))))) (ae (ah 1) (ae (ah 2) (ai))))) [.v (bt r x),.v A,.v B,.v G,.no,.v (aQ s)]=p5 (kD (vK n r x C L s)):=(a7 (ds:=[aQ s,kD T,A,B]) (ak rfl (ak u (ak rfl (ak rfl rfl)))) rfl).trans (MZ Q J w);have K:jX (ah 1) (dG (ah 5)) [.v (bt r x),.v A,.v B,.v G,.no,.v (aQ s)]=p5 (kD c):=Lm rfl rfl f;show _=p5 (D.tup [kD ((Eb C s).getD []),kD (vK n r x C L s)]);rw[f];exact cE (ak K (ak a rfl)) (by simp)
 rw[ax N,ax l,ax y];have q:bm 1 (Kp (ah 2)) (gN 5) (dH) (dz (ae (ar aY (jX (ah 2) (dG (ah 5))) (aD (.int 0))) (ae (ah 5) (ai)))) [.v (bt r x),.v A,.v B,.v G,.v (.lst ((o5 C L).map (fV n r x C L)))]=p5 (.lst (L.map λp=>.tup [kD p.2.1,aQ p.1])):=by
  refine bB (ds:=L.map λp=>aQ p.1) ?_ (by rw[Sm];omega) (bM (h:=λp=>aQ p.1) (o:=λp:List Int×Cr×Cr=>D.tup [kD p.2.1,aQ p.1]) L λp g=>⟨[.v (bt r x),.v A,.v B,.v G,.v (.lst ((o5 C L).map (fV n r x C L))),.v (aQ p.1)],rfl,?_⟩)
  ·unfold Kp;show((p5 B).bind vX).bind _=_;rw[Ss,gD,Ss,JW];simp
  ·have k:qf L p.1=p5 p.2:=by
    cases k:qf L p.1 with
    |none=>exact absurd (S6 g) (pF k)
    |some d=>
     have:=vQ E.lo.nd (fI k) g rfl;rw[<-this]
   exact cE (ak ((aw (Ls rfl rfl k) rfl).trans rfl) (ak rfl rfl)) (by simp)
 exact aU (cE (ak rfl (ak q rfl)) (by simp))
end
theorem O0(ds:List D):sH ds (p5 1) ξ=ds.drop 1:=by
 unfold sH;rw[HT.sIx_none,show(p5 (1:Int))=p5 ((1:Nat):Int) from rfl,HT.sIx_nat];cases ds with
 |nil=>rfl
 |cons x r=>
  simp
theorem PF {V:Cr}(u:Up V)(h:i+1<V.length):aT (V.getD i []) (V.getD (i+1) [])=true:=by
 have a:lq V[i] V[i+1]:=T9.mp u.1 i (i+1) ⋯ h (by simp);have b:V[i]≠V[i+1]:=λe=>by
  have:=Cb u.2 (show i<V.length by omega) h e;omega
 rw[T7,Su (by omega),T7,Su h];show aT V[i] V[i+1]=ζ;cases c:aT V[i] V[i+1] with
 |true=>rfl
 |false=>exact absurd (lU a c) b
theorem Pc(a b:List Int):KJ (aQ a) (aQ b)=p5 (.bl (aT a b)):=by
 simp[KJ,aQ,fy,vF]
theorem tD {c V:Cr}(u:Up V)(k: ∀z∈V,z∈c)(f:V.length<=500):eG [kD c,kD V]=p5 (.bl ζ):=by
 apply aS (kd:=.s) (n:=2) (t:=fX) (ρ:=[.v (kD c),.v (kD V)]);unfold fX hB;dsimp only;have e:am vT (ae (bm 1 (d9 (ah 1)) (gN 2) (dH) (ar (rQ θ) (ah 2) (ah 0))) (ai)) [.v (kD c),.v (kD V)]=p5 (.bl ζ):=by
  refine(bF (ds:=[.lst ((V.map λ_=>ζ).map D.bl)]) (ak (bB (ds:=V.map aQ) (dS rfl) (by rw[Sm];grind) ?_) rfl)).trans ((pk _).trans (by simp));refine(bM (h:=aQ) (o:=λ_=>.bl ζ) V λs j=>⟨[.v (kD c),.v (kD V),.v (aQ s)],rfl,?_⟩).trans (by rw[SJ];rfl);exact(aw rfl rfl).trans ((RG c s).trans (by nofun))
 have g:sI (fN (c8 (rZ "list" (ah 1)))) (fN (c8 (am vT (ae (bm 1 (d9 (ah 1)) (gN 2) (dH) (ar (rQ θ) (ah 2) (ah 0))) (ai))))) [.v (kD c),.v (kD V)]=p5 false:=nE (a:=θ) (b:=θ) (eY (b:=ζ) (dJ rfl)) (eY (b:=ζ) (dJ e));refine(ax (gR g)).trans (aU ?_);have z:Hq (ah 1) (xX (ah 1) (Nr (aD (.int 1))) NP) [.v (kD c),.v (kD V)]=p5 ((R9 (V.length-1)).map λ(i:Nat)=>D.tup [aQ (V.getD i []),aQ (V.getD (i+1) [])]):=by
  unfold Hq;rw[show xX (ah 1) (Nr (aD (.int 1))) NP [.v (kD c),.v (kD V)]=p5 (.lst ((V.map aQ).drop 1)) from(show _=p5 (D.lst (sH (V.map aQ) (p5 1) ξ)) from rfl).trans (by rw[O0])];show p5 (xZ (V.map aQ) ((V.map aQ).drop 1))=_;unfold xZ;rw[List.length_drop,Sm,show min V.length (V.length-1)=V.length-1 by simp];congr 1;refine TC λi d=>?_
  grind
 refine(bF (ds:=[.lst (((R9 (V.length-1)).map λ_=>ζ).map D.bl)]) (ak (bB z (by rw[Sm,T8];omega) ?_) rfl)).trans ((pk _).trans (by simp));refine(bM (h:=λ(i:Nat)=>D.tup [aQ (V.getD i []),aQ (V.getD (i+1) [])]) (o:=λ_=>.bl ζ) (R9 (V.length-1)) λi d=>⟨_,rfl,?_⟩).trans (by rw[SJ];rfl);rw[SE] at d;refine(aw (x:=aQ (V.getD i [])) (y:=aQ (V.getD (i+1) [])) rfl rfl).trans ((Pc _ _).trans ?_);rw[PF u (by omega)]
theorem tF {A B:Cr}(a:A.length<=500):bQ [kD A,kD B]=p5 (.bl (χ (ip A B=1))):=by
 apply aS (kd:=.s) (n:=2) (t:=jb) (ρ:=[.v (kD A),.v (kD B)]);unfold jb kz;dsimp only;refine aU ?_
 have q:am cR (ae (bm 1 (d9 (ah 0)) (gN 2) (bO (ar (rQ θ) (ah 2) (ah 1))) (ah 2)) (ai)) [.v (kD A),.v (kD B)]=p5 (.int (A.filter λk=>decide (k∈B)).length):=by
  refine(bF (ds:=[kD (A.filter λk=>decide (k∈B))]) (ak (bB (ds:=A.map aQ) (dS rfl) (by rw[Sm];omega) (fR (h:=aQ) (o:=aQ) A λk b=>⟨[.v (kD A),.v (kD B),.v (aQ k)],rfl,bN ((aw rfl rfl).trans (RG B k)),λ_=>rfl⟩)) rfl)).trans ?_
  show p5 (D.int (((A.filter λk=>decide (k∈B)).map aQ).length:Int))=_;simp
 refine((aw ((aw q (y:=.int 2) rfl).trans (ce (by simp))) (y:=.int 1) rfl).trans ?_);rw[gM (by rw[df];simp),gv];congr 2;unfold ip;rw[decide_eq_decide];lia
theorem zZ(R:Ord n r)(X:Ord n x)(O:Ord n o)(a:n<=8):d8 [bt r x,ay o]=p5 (.tup [.int (kH n r o),.int (kH n x o)]):=
 aS (kd:=.s) (n:=2) (t:=mS) (ρ:=[.v (bt r x),.v (ay o)]) (aU (cE (ak ((a7 (ds:=[ay r,ay o]) rfl rfl).trans (om R.len O.len a)) (ak ((a7 (ds:=[ay x,ay o]) rfl rfl).trans (om X.len O.len a)) rfl)) (by grind)))
theorem FQ(K:Cr):d5 (kD K)<=32:=by
 unfold d5;grind[zT]
theorem OQ(k:List Int)(c:Cr):aY (kD (k::c)) (.int 0)=p5 (aQ k):=by
 show pi ((k::c).map aQ) 0=_;simp[pi,vO]
section
variable {n:Nat}{r x:List Nat}(R:Ord n r)(X:Ord n x)(h2:2<=n)(h5:n<=5)(hx: ∀c,c<n->r.getD c 0≠x.getD c 0)
include R X h2 h5 hx
theorem yK(E:EI n r x (d6 n) (jV n r x) yO (d6 n) C L)(P:s∈o5 C L):b8 [bt r x,kD (d6 n),fV n r x C L s]=p5 (.bl ζ):=by
 have W:=tW R X h2 h5 hx;obtain⟨F,G⟩:=S4.mp P;have G:s∉L.map (·.1):=by grind
 obtain⟨c,Q,k⟩:=iz F;have u:=GQ W E F G;have T:=E.c1 _ k;have B:=E.c2 _ k;have m:=E.c3 _ k;have ch:=E.c5 _ k;have I:=E.c4 _ k;have Y:c.length<=120:=mY R X h2 h5 hx B.2 m
 let f:=vK n r x C L s
 have V:f.length<=120:=mY R X h2 h5 hx u.up.2 λz hz=>(u.sb z hz).1
 have M:fV n r x C L s=.tup [kD c,kD f]:=by show D.tup [kD ((Eb C s).getD []),_]=_;rw[Q];rfl
 rw[M]
 let th:D:=.tup [kD c,kD f]
 let g:aC:=[.v (bt r x),.v (kD (d6 n)),.v th,.no]
 apply aS (kd:=.s) (n:=4) (t:=eE);unfold eE ew;dsimp only;have U:sI (fN (c8 (rZ "tuple" (ah 2)))) (bO (ar oZ (am cR (ae (ah 2) (ai))) (aD (.int 2)))) g=p5 false:=nE (a:=θ) (b:=θ) (eY (b:=ζ) (dJ rfl)) (bN ((aw (x:=.int 2) (y:=.int 2) rfl rfl).trans (wN (by simp[df]))));refine(ax (ρ':=g) (gR U)).trans ?_
 obtain⟨i,A,H⟩: ∃i A,c=i::A:=by
  cases c with
  |nil=>cases T.1
  |cons a l=>exact⟨a,l,rfl⟩
 have K:sI (fN (c8 (am (nF 2 eG) (ae (ah 1) (ae (ar aY (ah 2) (aD (.int 0))) (ai)))))) (sI (fN (c8 (am (nF 2 eG) (ae (ah 1) (ae (ar aY (ah 2) (aD (.int 1))) (ai)))))) (bO (ar wS (ar aY (ah 2) (aD (.int 0))) (bZ (ai))))) g=p5 false:=
  nE (a:=θ) (b:=θ) (eY (b:=ζ) (dJ ((a7 (ds:=[kD (d6 n),kD c]) rfl rfl).trans (tD B m (by grind)))))
   (nE (a:=θ) (b:=θ) (eY (b:=ζ) (dJ ((a7 (ds:=[kD (d6 n),kD f]) rfl rfl).trans (tD u.up (λz hz=>(u.sb z hz).1) ⋯))))
     (bN ((aw (x:=kD c) (y:=.lst []) rfl rfl).trans (by rw[gM (FQ c),H];rfl))))
 refine(ax (ρ':=g) (gR K)).trans ?_
 have J: ∀z∈d6 n,jV n r x z=jV n r x s->d8 [bt r x,aQ z]=p5 (.tup [.int (jV n r x s).1,.int (jV n r x s).2]):=λz hz e=>by
  obtain⟨o,O,rfl⟩:=ik.mp hz;rw[<-kP,zZ R X O ⋯,<-e];unfold jV;rw[fF]
 let j:D:=.tup [.int (jV n r x s).1,.int (jV n r x s).2]
 have p:i∈c:=by nofun
 have S:bp 3 (am (nF 2 d8) (ae (ah 0) (ae (ar aY (ar aY (ah 2) (aD (.int 0))) (aD (.int 0))) (ai)))) g=.nx [.v (bt r x),.v (kD (d6 n)),.v th,.v j]:=by
  refine(bf (d:=j) ((a7 (ds:=[bt r x,aQ i]) (ak rfl (ak ((aw (x:=kD c) (y:=.int 0) rfl rfl).trans (by rw[H];exact OQ i A)) rfl)) rfl).trans (J i (m i p) (ch i p)))).trans rfl
 refine(ax S).trans ?_
 have N:am vT (ae (bm 1 (d9 (ar yz (ar aY (ah 2) (aD (.int 0))) (ar aY (ah 2) (aD (.int 1))))) (gN 4) (dH) (ar wS (am (nF 2 d8) (ae (ah 0) (ae (ah 4) (ai)))) (ah 3))) (ai)) [.v (bt r x),.v (kD (d6 n)),.v th,.v j]=p5 (.bl ζ):=by
  refine(bF (ds:=[.lst (((c++f).map λ_=>ζ).map D.bl)]) (ak (bB (ds:=(c++f).map aQ) (dS ((aw (x:=kD c) (y:=kD f) rfl rfl).trans ?_)) (by rw[Sm,SG];grind) ?_) rfl)).trans ((pk _).trans (by simp))
  ·unfold yz;dsimp only;rw[if_pos (by rw[Sm,Sm,TY];lia),SZ]
  ·refine(bM (h:=aQ) (o:=λ_=>.bl ζ) (c++f) λz hz=>⟨[.v (bt r x),.v (kD (d6 n)),.v th,.v j,.v (aQ z)],rfl,?_⟩).trans (by rw[SJ];rfl);have w:z∈d6 n/\jV n r x z=jV n r x s:=by
    rcases SL.mp hz with q|q
    ·exact⟨m z q,ch z q⟩
    ·exact u.sb z q
   refine(aw (x:=j) (y:=j) ((a7 (ds:=[bt r x,aQ z]) rfl rfl).trans (J z w.1 w.2)) rfl).trans (AY ?_);show d5 (.tup [.int _,.int _])<=32;simp[d5,bJ]
 refine(ax (ρ':=[.v (bt r x),.v (kD (d6 n)),.v th,.v j]) (gR (eY (b:=ζ) (dJ N)))).trans ?_
 refine aU ((aw (x:=kD []) (y:=.lst []) ((a7 (ds:=[bt r x,kD c]) rfl rfl).trans ((qt h2 h5 R X (dy.mp m) (by rw[I];simp)).trans (by rw[I]))) rfl).trans (AY ()))
end
theorem A2 {A B:Cr}(b:A.Nodup)(a:B.Nodup):ip A B=ip B A:=by
 unfold ip;have:(A.filter λk=>decide (k∈B)).Perm (B.filter λk=>decide (k∈A)):=(Tg (b.filter _) (a.filter _)).mpr λk=>by
  simp[And.comm]
 rw[this.length_eq]
def rW(k:Nat):List Nat:=(R9 5).map λc=>(c+k) % 5
def xW(k t:Nat):List Nat:=(rW k).map λc=>(c+(2+t)) % 5
theorem RZ: ∀t,t<2-> ∀k,k<5->(rW k).Perm (R9 5)/\(xW k t).Perm (R9 5)/\ ∀i,i<5->(xW k t).getD i 0≠(rW k).getD i 0:=by decide
theorem EH {N:Nat}(B:Bag N a b)(D:N<=1000): ∃(r x:List Nat) (g b':Int),gC (bc a b) []=p5 (bt r x,bc g b')/\Sq 5 r x/\Bag (N+2) g b':=by
 obtain⟨t,e,f,u,w,G,E⟩:=jS (m:=2) B ⋯ (by simp) (by simp);obtain⟨k,c,d,A,q,F,C⟩:=jS (m:=5) w (by grind) (by simp) (by simp);obtain⟨t,j,rfl⟩: ∃i:Nat,i<2/\t=i:=⟨t.toNat,by nofun,by grind⟩
 obtain⟨k,y,rfl⟩: ∃i:Nat,i<5/\k=i:=⟨k.toNat,by nofun,by grind⟩
 obtain⟨o,l,p⟩:=RZ t j k y;refine⟨rW k,xW k t,c,d,?_,⟨⟨o⟩,⟨l⟩,p⟩,q⟩;refine ML (kd:=.s) (n:=4) (t:=jv) (ρ:=[.arg (bc c d),.v (.int (2+t)),.v (nI k),.v (.lst ((rW k).map nI))]) ?_ rfl;unfold jv;have z:f8 1 (pR cr (pu (aD (.int 2))) (a9 0 1 cn (cV (ae (aD (.int 2)) (ai))))) (p9 4 (bc a b) [])=.nx [.arg (bc e f),.v (.int (2+t)),.no,.no]:=(gB (BS (oR rfl) (cL (i:=0) (n:=1) (b0:=bc a b) (ds:=[.int 2]) rfl (bx rfl) rfl rfl u) (fZ _ _))).trans rfl;have h:f8 2 (a9 0 1 cn (cV (ae (aD (.int 5)) (ai)))) [.arg (bc e f),.v (.int (2+t)),.no,.no]=.nx [.arg (bc c d),.v (.int (2+t)),.v (nI k),.no]:=(gB (cL (i:=0) (n:=1) (b0:=bc e f) (ds:=[.int 5]) rfl (bx rfl) rfl rfl A)).trans rfl;rw[ax z,ax h];rfl
def sz8:List Nat:=[2,3,3,4,4,4,5,5]
theorem Mv: ∀i,i<8->2<=sz8.getD i 0/\sz8.getD i 0<=5:=by decide
section
variable {n:Nat}{r x:List Nat}(R:Ord n r)(X:Ord n x)(h2:2<=n)(h5:n<=5)(hx: ∀c,c<n->r.getD c 0≠x.getD c 0)
include R X h2 h5 hx
theorem A4(I:D)(K:List D)(kd:D): ∃ρ',(aF (bp 5 (am (nF 1 gZ) (ae (ah 3) (ai))))
 (aF (bp 6 (am (nF 1 dD) (ae (ah 4) (ai))))
 (aF (fL (sI (fN (c8 (rZ "tuple" (ah 6)))) (sI (bO (ar oZ (am cR (ae (ah 6) (ai))) (aD (.int 2)))) (fN (c8 (rZ "list" (ar aY (ah 6) (aD (.int 0)))))))) (bH (aD (.bl θ))) (dc))
 (aF (fL (fN (c8 (am vT (ae (bm 1 (d9 (ar aY (ah 6) (aD (.int 0)))) (gN 11) (dH) (am (nF 3 b8) (ae (ah 4) (ae (ah 5) (ae (ah 11) (ai)))))) (ai))))) (bH (aD (.bl θ))) (dc))
 (aF (eL (cV (d9 (ah 5))) (gN 7) (aF (bp 8 (am (nF 2 eD) (ae (ah 4) (ae (bZ (ae (ah 7) (ai))) (ai)))))
 (fL (d4 (bO (ar oZ (ah 8) (bZ (ai)))) (c8 (am vd (ae (bm 1 (d9 (ar aY (ah 6) (aD (.int 0)))) (gN 11) (dH) (am (nF 2 bQ) (ae (ah 8) (ae (ar aY (ah 11) (aD (.int 1))) (ai))))) (ai))))) (bH (aD (.bl θ))) (dc))))
 (aF (eL (cV (sA (ar aY (ah 6) (aD (.int 0))))) (gT 2 (gp (gN 9) (gp (gN 10) (kZ)))) (fL (bO (ar oZ (bm 2 (sA (ar aY (ah 6) (aD (.int 0)))) (gT 2 (gp (gN 11) (gp (gN 12) (kZ)))) (c8 (am (nF 2 bQ) (ae (ar aY (ah 12) (aD (.int 0))) (ae (ar aY (ah 10) (aD (.int 1))) (ai))))) (ah 11)) (bZ (ae (ah 9) (ai))))) (bH (aD (.bl θ))) (dc)))
 (bH (aD (.bl ζ))))))))) [.v I,.own K,.v kd,.v (nI n),.v (bt r x),.no,.no,.no,.no,.no,.no]=.rt (.bl ζ) ρ':=by
 have W:=tW R X h2 h5 hx;have E:=GH R X h2 h5 hx;have tk:=Gm R X h2 h5 hx;generalize (xy n r x).1=C at E tk;generalize (xy n r x).2=L at E tk;have lS:(d6 n).length<=120:=by rw[Sm];exact je n h5
 have lC:C.length<=120/\L.length<=120:=by have:=E.ln;lia
 let cls:=o5 C L
 have U:cls.Nodup:=(E.cs.nodup W.up.2).filter _;have lcl:cls.length<=120:=by
  have:=UP (λs=>decide (s∉L.map (·.1))) (C.map (·.1));rw[Sm] at this;exact Tk this lC.1
 let B:List D:=cls.map (fV n r x C L)
 let T:D:=.tup [.lst B,.lst (L.map λp=>.tup [kD p.2.1,aQ p.1])]
 have cf: ∀s∈cls,∃c,fV n r x C L s=.tup [kD c,kD (vK n r x C L s)]/\(s,c)∈C/\s∉L.map (·.1)/\c.Nodup/\c.length<=120/\v3 n r x (d6 n) (jV n r x) C L s (vK n r x C L s)/\(vK n r x C L s).length<=120:=λs H=>by
  obtain⟨sC,Y⟩:=S4.mp H;have Y:s∉L.map (·.1):=by lia
  obtain⟨c,ec,P⟩:=iz sC;have G:=GQ W E sC Y;refine⟨c,?_,P,Y,(E.c2 _ P).2,mY R X h2 h5 hx (E.c2 _ P).2 (E.c3 _ P),G,mY R X h2 h5 hx G.up.2 λz hz=>(G.sb z hz).1⟩;nofun
 let st:Sl->Sl->Sl->Sl->aC:=λl f Q m=>[.v I,.own K,.v kd,.v (nI n),.v (bt r x),.v (kD (d6 n)),.v T,l,f,Q,m]
 have q5:bp 5 (am (nF 1 gZ) (ae (ah 3) (ai))) [.v I,.own K,.v kd,.v (nI n),.v (bt r x),.no,.no,.no,.no,.no,.no]=.nx [.v I,.own K,.v kd,.v (nI n),.v (bt r x),.v (kD (d6 n)),.no,.no,.no,.no,.no]:=(bf (d:=kD (d6 n)) ((a7 (ds:=[nI n]) rfl rfl).trans ((IZ ⋯).trans (by rw[zF])))).trans rfl;have q6:bp 6 (am (nF 1 dD) (ae (ah 4) (ai))) [.v I,.own K,.v kd,.v (nI n),.v (bt r x),.v (kD (d6 n)),.no,.no,.no,.no,.no]=.nx (st .no .no .no .no):=(bf (d:=T) ((a7 (ds:=[bt r x]) rfl rfl).trans tk)).trans rfl;have g7:sI (fN (c8 (rZ "tuple" (ah 6)))) (sI (bO (ar oZ (am cR (ae (ah 6) (ai))) (aD (.int 2)))) (fN (c8 (rZ "list" (ar aY (ah 6) (aD (.int 0))))))) (st .no .no .no .no)=p5 false:=
  nE (a:=θ) (b:=θ) (eY (b:=ζ) (dJ rfl)) (nE (a:=θ) (b:=θ) (bN ((aw (x:=.int 2) (y:=.int 2) rfl rfl).trans (wN (by rw[df];simp)))) (eY (b:=ζ) (dJ rfl)))
 have g8:am vT (ae (bm 1 (d9 (ar aY (ah 6) (aD (.int 0)))) (gN 11) (dH) (am (nF 3 b8) (ae (ah 4) (ae (ah 5) (ae (ah 11) (ai)))))) (ai)) (st .no .no .no .no)=p5 (.bl ζ):=by
  refine(bF (ds:=[.lst ((cls.map λ_=>ζ).map D.bl)]) (ak (bB (ds:=B) (dS ((aw (x:=T) (y:=.int 0) rfl rfl).trans rfl)) (by grind) ?_) rfl)).trans ((pk _).trans (by simp));refine(bM (h:=fV n r x C L) (o:=λ_=>.bl ζ) cls λs H=>⟨st .no .no .no .no++[.v (fV n r x C L s)],rfl,?_⟩).trans (by rw[SJ];rfl);exact(a7 (ds:=[bt r x,kD (d6 n),fV n r x C L s]) rfl rfl).trans (yK R X h2 h5 hx E H)
 rw[ax q5,ax q6,ax (gR g7),ax (gR (eY (b:=ζ) (dJ g8)))];refine GC (λρ=> ∃l f,ρ=st l f .no .no) (AF (ds:=(d6 n).map aQ) (bx (dS rfl)) (vA _ (λd Z ρ F=>?_) _ ⟨_,_,rfl⟩)) λρ' A=>?_
 ·obtain⟨l,f,rfl⟩:=F;obtain⟨u,hu,rfl⟩:=SM.mp Z;have M:lF n [u]:=dy.mp λz hz=>by nofun
  have bl:(cP n r x [u]).length<=60:=k6 R h2 h5 (x:=x) (qW _).2 (dy.mp (W.bs [u] (dy.mpr M))) (h:=yO (jV n r x u)) λz hz=>W.bh u hu z hz
  have z1:bp 8 (am (nF 2 eD) (ae (ah 4) (ae (bZ (ae (ah 7) (ai))) (ai)))) (st (.v (aQ u)) f .no .no)=.nx (st (.v (aQ u)) (.v (kD (cP n r x [u]))) .no .no):=(bf (d:=kD (cP n r x [u])) ((a7 (ds:=[bt r x,kD [u]]) rfl rfl).trans (qt h2 h5 R X M ⋯))).trans rfl;have z2:d4 (bO (ar oZ (ah 8) (bZ (ai)))) (c8 (am vd (ae (bm 1 (d9 (ar aY (ah 6) (aD (.int 0)))) (gN 11) (dH) (am (nF 2 bQ) (ae (ah 8) (ae (ar aY (ah 11) (aD (.int 1))) (ai))))) (ai)))) (st (.v (aQ u)) (.v (kD (cP n r x [u]))) .no .no)=p5 false:=by
   have a1:bO (ar oZ (ah 8) (bZ (ai))) (st (.v (aQ u)) (.v (kD (cP n r x [u]))) .no .no)=p5 (!gV (kD (cP n r x [u])) (.lst [])):=bN ((aw (x:=kD (cP n r x [u])) (y:=.lst []) rfl rfl).trans (nK (FQ _)));have a2:am vd (ae (bm 1 (d9 (ar aY (ah 6) (aD (.int 0)))) (gN 11) (dH) (am (nF 2 bQ) (ae (ah 8) (ae (ar aY (ah 11) (aD (.int 1))) (ai))))) (ai)) (st (.v (aQ u)) (.v (kD (cP n r x [u]))) .no .no)=p5 (.bl θ):=by
    refine(bF (ds:=[.lst ((cls.map λ_=>θ).map D.bl)]) (ak (bB (ds:=B) (dS ((aw (x:=T) (y:=.int 0) rfl rfl).trans rfl)) (by show(cls.map _).length<=_;grind) ?_) rfl)).trans ((we _).trans (by simp));refine(bM (h:=fV n r x C L) (o:=λ_=>.bl θ) cls λs H=>⟨st (.v (aQ u)) (.v (kD (cP n r x [u]))) .no .no++[.v (fV n r x C L s)],rfl,?_⟩).trans (by rw[SJ];rfl);obtain⟨c,e,_,_,_,_,G,_⟩:=cf s H;refine(a7 (ds:=[kD (cP n r x [u]),kD (vK n r x C L s)]) (ak rfl (ak ((aw (x:=fV n r x C L s) (y:=.int 1) rfl rfl).trans rfl) rfl)) rfl).trans ((tF ⋯).trans ?_);rw[A2 (qW _).2 G.up.2,G.ev u hu];rfl
   exact yw a1 (dJ a2) |>.trans (by simp)
  exact⟨st (.v (aQ u)) f .no .no,_,rfl,(ax z1).trans (gR z2),⟨_,_,rfl⟩⟩
 ·obtain⟨l,f,rfl⟩:=A;have V:B.length=cls.length:=Sm _;have J: ∀j,j<cls.length->B.getD j .non=fV n r x C L (cls.getD j []):=λj w=>by
   show(cls.map _).getD j _=_;nofun
  have t: ∀j,j<cls.length->cls.getD j []∈cls:=λj w=>by
   nofun
  have O: ∀i j,i<cls.length->j<cls.length->cls.getD i []=cls.getD j []->i=j:=λi j N w e=>by
   rw[T7,Su N,T7,Su w] at e;exact Cb U N w e
  have en: ∀ρ,ar aY (ah 6) (aD (.int 0)) ρ=p5 (.lst B)->sA (ar aY (ah 6) (aD (.int 0))) ρ=p5 ((R9 cls.length).map λ(i:Nat)=>D.tup [nI i,fV n r x C L (cls.getD i [])]):=λρ h=>by
   unfold sA;rw[h];show p5 (mK B)=_;unfold mK;rw[V];congr 1;refine TC λi N=>?_
   rw[J i (SE.mp N)]
  refine GC (λρ=> ∃Q m,ρ=st l f Q m) (AF (bx (en _ rfl)) (vA _ (λd Z ρ F=>?_) _ ⟨_,_,rfl⟩)) λρ' A=>⟨ρ',aU rfl⟩
  obtain⟨Q,m,rfl⟩:=F;obtain⟨k,S,rfl⟩:=SM.mp Z;rw[SE] at S
  let g:=fV n r x C L (cls.getD k [])
  obtain⟨ck,ek,mk,nk,_,_,rk,lrk⟩:=cf _ (t k S);have z:bm 2 (sA (ar aY (ah 6) (aD (.int 0)))) (gT 2 (gp (gN 11) (gp (gN 12) (kZ)))) (c8 (am (nF 2 bQ) (ae (ar aY (ah 12) (aD (.int 0))) (ae (ar aY (ah 10) (aD (.int 1))) (ai))))) (ah 11) (st l f (.v (nI k)) (.v g))=p5 (.lst [nI k]):=by
   refine(bB (en _ rfl) (by rw[Sm,T8];lia) (fR (h:=λ(i:Nat)=>D.tup [nI i,fV n r x C L (cls.getD i [])]) (o:=nI) (q:=λi=>decide (i=k)) (R9 cls.length) λj w=>⟨st l f (.v (nI k)) (.v g)++[.v (nI j),.v (fV n r x C L (cls.getD j []))],rfl,?_,λ_=>rfl⟩)).trans ?_
   ·rw[SE] at w;obtain⟨cj,ej,mj,nj,ndj,lj,_,_⟩:=cf _ (t j w);refine dJ ((a7 (ds:=[kD cj,kD (vK n r x C L (cls.getD k []))]) (ak ((aw (x:=fV n r x C L (cls.getD j [])) (y:=.int 0) rfl rfl).trans (by rw[ej];rfl)) (ak ((aw (x:=g) (y:=.int 1) rfl rfl).trans rfl) rfl)) rfl).trans ((tF (by omega)).trans ?_));rw[A2 ndj rk.up.2,rk.cy _ _ mj nj]
    by_cases e:j=k
    ·grind
    ·rw[if_neg λq=>e (O j k w S q)];simp[e]
   ·rw[qL S λi N=>by simp];rfl
  have z2:bO (ar oZ (bm 2 (sA (ar aY (ah 6) (aD (.int 0)))) (gT 2 (gp (gN 11) (gp (gN 12) (kZ)))) (c8 (am (nF 2 bQ) (ae (ar aY (ah 12) (aD (.int 0))) (ae (ar aY (ah 10) (aD (.int 1))) (ai))))) (ah 11)) (bZ (ae (ah 9) (ai)))) (st l f (.v (nI k)) (.v g))=p5 false:=bN ((aw z (y:=.lst [nI k]) rfl).trans (wN (by simp[d5,bJ])));exact⟨st l f (.v (nI k)) (.v g),_,rfl,gR z2,⟨_,_,rfl⟩⟩
end
theorem L3(ns:List Int)(O:ns.length<=63):LB [ki ns]=p5 (.bl ζ):=by
 refine vG (kd:=.s) (n:=11) (t:=EK) ?_
 unfold EK;obtain⟨h,b0,C,B⟩:=My ns 0 (by simp) O;obtain⟨t,a,b,I,J,T,S⟩:=jS (m:=8) B (by simp) (by simp) (by simp);obtain⟨i,p,rfl⟩: ∃i:Nat,i<8/\t=i:=⟨t.toNat,by nofun,by grind⟩
 obtain⟨n,q,k,u⟩: ∃n:Nat,n=sz8.getD i 0/\2<=n/\n<=5:=⟨_,rfl,Mv i p⟩
 obtain⟨r,x,e,f,N,Q,G⟩:=zC J (n:=n) k (by grind) (by simp);have L:dW 1 (am (nF 2 nO) (ae (ah 0) (ae (aD (.int 0)) (ai)))) (mG 11 [ki ns])=.nx [.v (ki ns),.own (bc h b0),.no,.no,.no,.no,.no,.no,.no,.no,.no]:=(fG ((a7 (ds:=[ki ns,nI 0]) rfl rfl).trans C)).trans rfl;have w:f8 2 (a9 1 1 cn (cV (ae (aD (.int 8)) (ai)))) [.v (ki ns),.own (bc h b0),.no,.no,.no,.no,.no,.no,.no,.no,.no]=.nx [.v (ki ns),.own (bc a b),.v (nI i),.no,.no,.no,.no,.no,.no,.no,.no]:=(gB (cL (i:=1) (n:=1) (b0:=bc h b0) (ds:=[.int 8]) rfl (bx rfl) rfl rfl I)).trans rfl;have E:bp 3 (ar aY (bZ (ae (aD (.int 2)) (ae (aD (.int 3)) (ae (aD (.int 3)) (ae (aD (.int 4)) (ae (aD (.int 4)) (ae (aD (.int 4)) (ae (aD (.int 5)) (ae (aD (.int 5)) (ai)))))))))) (ah 2)) [.v (ki ns),.own (bc a b),.v (nI i),.no,.no,.no,.no,.no,.no,.no,.no]=.nx [.v (ki ns),.own (bc a b),.v (nI i),.v (nI n),.no,.no,.no,.no,.no,.no,.no]:=(bf (d:=nI n) ((aw (x:=.lst (sz8.map nI)) (y:=nI i) rfl rfl).trans (q▸yH (r:=sz8) p))).trans rfl;have F:f8 4 (a9 1 1 ij (cV (ae (ah 3) (ai)))) [.v (ki ns),.own (bc a b),.v (nI i),.v (nI n),.no,.no,.no,.no,.no,.no,.no]=.nx [.v (ki ns),.own (bc e f),.v (nI i),.v (nI n),.v (bt r x),.no,.no,.no,.no,.no,.no]:=(gB (cL (i:=1) (n:=1) (b0:=bc a b) (ds:=[nI n]) rfl (bx rfl) rfl rfl N)).trans rfl;rw[ax L,ax w,ax E,ax F];have g:bO (ar wS (ah 2) (aD (.int 7))) [.v (ki ns),.own (bc e f),.v (nI i),.v (nI n),.v (bt r x),.no,.no,.no,.no,.no,.no]=p5 (χ (i=7)):=bN ((aw (x:=nI i) (y:=nI 7) rfl rfl).trans (by simp[gM,df,kL]))
 by_cases j:i=7
 ·rw[zm j] at g;have P:n=5:=by rw[q,j];rfl
  obtain⟨A,H,D,z,K,o,R⟩:=EH G ⋯;have M:fL (bO (ar wS (ah 2) (aD (.int 7)))) (f8 4 (a9 1 0 gC (cV (ai)))) (dc) [.v (ki ns),.own (bc e f),.v (nI i),.v (nI n),.v (bt r x),.no,.no,.no,.no,.no,.no]=.nx [.v (ki ns),.own (bc D z),.v (nI i),.v (nI n),.v (bt A H),.no,.no,.no,.no,.no,.no]:=(lZ g).trans ((gB (cL (i:=1) (n:=0) (b0:=bc e f) (ds:=[]) rfl (bx rfl) rfl rfl K)).trans rfl);rw[ax M];subst P;exact A4 o.hr o.hx k u (λc l=>(o.ne c l).symm) _ _ _
 ·rw[zq j] at g;rw[ax (gR g)];exact A4 Q.hr Q.hx k u (λc l=>(Q.ne c l).symm) _ _ _
theorem df_of {K:Sf}{h:Heap}(X:K.In h)(G:h.Ns Ut mg){st:Stmt}{m:List Str}{n:Sb}{o g:Option Addr}{i:Array (Option Sb)}{kV e j d ct:Sb}(a:W.nsIn K Ut x=p5 (p5 (.ref f)))
 (l:K.lookup f=p5 ⟨n,o,.func (Y4 x x (gF st) (dm st) (av st) .none kV e j g d ct),i⟩) (c:jaA K d x=ζ) (k:Yb K (.ref f)=ζ)
 (b: ∀(kV e j:Sb) (g:Option Addr) (d ct:Sb) (us:List Sb),us.length=m.length->bindArgs (Y4 x x (gF st) (dm st) (av st) .none kV e j g d ct) ⟨us,[]⟩=pure (m.zip us)):Df K mg x st m:=
 ⟨_,_,Ad l c k,W.mg_of X G a,(Ad l c k).binds b⟩
set_option maxHeartbeats 4000000
theorem all_mk {L:jea}{K:Sf}{h:Heap}{n f:Option Addr}{o:Array (Option Sb)}{m kV i g d ct:Sb}(X:K.In h)(G:h.Ns Ut mg)(b:mg "law"=p5 (.ref fb))
 (B:Bt K mg)
 (a:W.nsIn K Ut "law"=p5 (p5 (.ref fa))) (l:K.lookup fa=p5 ⟨m,n,.func (Y4 "law" "law" (gF k9) (dm k9) (av k9) .none kV i g f d ct),o⟩) (c:jaA K d "law"=ζ) (k:Yb K (.ref fa)=ζ):
 ∃j:Vj,(∀(s:Sc) (v:Sb),jaz s j ⟨[v],[]⟩ [("_law_script",v)])/\ ∀base:Heap,K.In base->base.Ns Ut mg->ju L.prog w K mg base wZ 10 fb j ["_law_script"] (BJ K):=by
 have e:=b.symm.trans (W.mg_of X G a);cases e;have F:=Ad (st:=k9) l c k;refine⟨Y4 "law" "law" (gF k9) (dm k9) (av k9) .none kV i g f d ct,λs v=>.of_eq rfl,λbase _ _=>?_⟩;exact M9 (Nl (P:=L.prog) (w:=w) (base:=base) B F) L3
end
end Lake
namespace PySem.W.Fast
theorem tw7684899354882873507:True:=⟨⟩
theorem tw11824873815615382515:True:=⟨⟩
theorem tw1113655466017876562:True:=⟨⟩
theorem tw2954412770220146014:True:=⟨⟩
theorem tw11708555789823257763:True:=⟨⟩
theorem tw2920569941560662914:True:=⟨⟩
theorem tw12809706182971735953:True:=⟨⟩
theorem tw16341121175626927172:True:=⟨⟩
theorem tw5808892088726006318:True:=⟨⟩
theorem tw2454509710221501411:True:=⟨⟩
theorem tw6004103403428241338:True:=⟨⟩
theorem tw60808874691230399:True:=⟨⟩
theorem tw8371707577037028835:True:=⟨⟩
theorem tw10252999092438591588:True:=⟨⟩
theorem tw16601702323073302118:True:=⟨⟩
theorem tw5657582128027748370:True:=⟨⟩
theorem tw18192372888473351195:True:=⟨⟩
theorem tw2300432664646465793:True:=⟨⟩
theorem tw12712327389002243761:True:=⟨⟩
theorem tw1681399745594903642:True:=⟨⟩
theorem tw2918798361819150692:True:=⟨⟩
theorem tw8913150638538951080:True:=⟨⟩
theorem tw4987688471300165902:True:=⟨⟩
theorem tw10137916521055563898:True:=⟨⟩
theorem tw7534598724781441896:True:=⟨⟩
theorem tw5870244263716664218:True:=⟨⟩
theorem tw5119510715416474860:True:=⟨⟩
theorem tw3051844474958587951:True:=⟨⟩
theorem tw3955899549128123624:True:=⟨⟩
theorem tw13176184483815477237:True:=⟨⟩
theorem tw890659278127354495:True:=⟨⟩
theorem tw15508461246867850176:True:=⟨⟩
theorem tw3697507391769670012:True:=⟨⟩
theorem tw14123031360579346033:True:=⟨⟩
theorem tw4578335694984349357:True:=⟨⟩
theorem tw1055708029739189811:True:=⟨⟩
theorem tw10816011022647398633:True:=⟨⟩
theorem tw15416555624179904232:True:=⟨⟩
theorem tw4809385684367257715:True:=⟨⟩
theorem tw7325741084221732327:True:=⟨⟩
theorem tw10563348608469542298:True:=⟨⟩
theorem tw2713918538679448974:True:=⟨⟩
theorem tw17985141263390278409:True:=⟨⟩
theorem tw15590593614428765405:True:=⟨⟩
theorem tw11188362265533086414:True:=⟨⟩
theorem tw17944068835975970377:True:=⟨⟩
theorem tw16008147583656805551:True:=⟨⟩
theorem tw12686154009906232476:True:=⟨⟩
theorem tw1941437661987864043:True:=⟨⟩
theorem tw531061138306963855:True:=⟨⟩
theorem tw7813421945295396979:True:=⟨⟩
theorem tw9041301665122023696:True:=⟨⟩
theorem tw16437188306208437376:True:=⟨⟩
theorem tw3118701307334119625:True:=⟨⟩
theorem tw4910695711747439781:True:=⟨⟩
theorem tw9323870844569047668:True:=⟨⟩
theorem tw4632681096340404861:True:=⟨⟩
theorem tw1058166484615148985:True:=⟨⟩
theorem tw13674116784733324309:True:=⟨⟩
theorem tw7857321282762055553:True:=⟨⟩
theorem tw15668502973032291568:True:=⟨⟩
theorem tw4067110215056080374:True:=⟨⟩
theorem tw6616923106585371341:True:=⟨⟩
theorem tw1660678788162090606:True:=⟨⟩
theorem tw14558751180979633213:True:=⟨⟩
theorem tw1391267027806321771:True:=⟨⟩
theorem tw10583507068994033841:True:=⟨⟩
theorem tw9729677827420451130:True:=⟨⟩
theorem tw5251618264723174034:True:=⟨⟩
theorem tw641210861068001479:True:=⟨⟩
theorem tw2536419868546681037:True:=⟨⟩
theorem tw2289382287027670950:True:=⟨⟩
theorem tw9268560987027626919:True:=⟨⟩
theorem tw6397489046509258031:True:=⟨⟩
theorem tw12730182693971251541:True:=⟨⟩
theorem tw13182681111045283960:True:=⟨⟩
theorem tw681451400662994289:True:=⟨⟩
theorem tw2955199567063697767:True:=⟨⟩
theorem tw2187148668085333525:True:=⟨⟩
theorem tw217762435629932268:True:=⟨⟩
theorem tw18418268886840599307:True:=⟨⟩
theorem tw13699230689306562229:True:=⟨⟩
theorem tw10221499911493444967:True:=⟨⟩
theorem tw12048958573059622725:True:=⟨⟩
theorem tw3542574917596627350:True:=⟨⟩
theorem tw4821229244205782122:True:=⟨⟩
theorem tw13007426003385478464:True:=⟨⟩
theorem tw12842478486064129784:True:=⟨⟩
theorem tw13275397294847995604:True:=⟨⟩
theorem tw1311601562617151334:True:=⟨⟩
theorem tw12830585102109903936:True:=⟨⟩
theorem tw10957481540344993746:True:=⟨⟩
theorem tw12033099645720580485:True:=⟨⟩
theorem tw11829153378720191174:True:=⟨⟩
theorem tw5952164327299309297:True:=⟨⟩
theorem tw7680315870339490394:True:=⟨⟩
theorem tw6803565323063812325:True:=⟨⟩
theorem tw16543052257935146451:True:=⟨⟩
theorem tw9984971757151595951:True:=⟨⟩
theorem tw17912708496749388102:True:=⟨⟩
theorem tw10459760922088732549:True:=⟨⟩
theorem tw14093631940738266703:True:=⟨⟩
theorem tw9577721042908359283:True:=⟨⟩
theorem tw9428941857364507184:True:=⟨⟩
theorem tw15131273027498344504:True:=⟨⟩
theorem tw11190296672729101113:True:=⟨⟩
theorem tw10202498980691455269:True:=⟨⟩
theorem tw16757554694702005649:True:=⟨⟩
theorem tw11504976471539050525:True:=⟨⟩
theorem tw8382942484147817564:True:=⟨⟩
theorem tw13868522358949325673:True:=⟨⟩
theorem tw9931814429254320043:True:=⟨⟩
theorem tw15535622096800029434:True:=⟨⟩
theorem tw8267256185663965267:True:=⟨⟩
theorem tw16816536401338941029:True:=⟨⟩
theorem tw17949840945418197783:True:=⟨⟩
theorem tw13971520366181840940:True:=⟨⟩
theorem tw880746416694258704:True:=⟨⟩
theorem tw15993357988463800584:True:=⟨⟩
theorem tw5987930783464662354:True:=⟨⟩
theorem tw6361055269768076276:True:=⟨⟩
theorem tw2708918814565726804:True:=⟨⟩
theorem tw2549401130301384956:True:=⟨⟩
theorem tw4740597423573638414:True:=⟨⟩
theorem tw1789192342718946775:True:=⟨⟩
theorem tw15529577500038264421:True:=⟨⟩
theorem tw1655924981540660736:True:=⟨⟩
theorem tw14217100209386468380:True:=⟨⟩
theorem tw797849747032237166:True:=⟨⟩
theorem tw5613360444963066160:True:=⟨⟩
theorem tw665202550346637185:True:=⟨⟩
theorem tw6015200456047877247:True:=⟨⟩
theorem tw14672951985867189913:True:=⟨⟩
theorem tw6160518927566964121:True:=⟨⟩
theorem tw16466832216930849357:True:=⟨⟩
theorem tw10294128111795013133:True:=⟨⟩
theorem tw15217736927852339526:True:=⟨⟩
theorem tw1501067070687234056:True:=⟨⟩
theorem tw15590057903182060101:True:=⟨⟩
theorem tw16755814588774243638:True:=⟨⟩
theorem tw7334503679705353275:True:=⟨⟩
theorem tw17471388764312162785:True:=⟨⟩
theorem tw5471865440245687931:True:=⟨⟩
theorem tw4092873479374241905:True:=⟨⟩
theorem tw13443537689573046940:True:=⟨⟩
theorem tw13562763507391995888:True:=⟨⟩
theorem tw13475912063607560326:True:=⟨⟩
theorem tw4710839945609274951:True:=⟨⟩
theorem tw9749573717631987635:True:=⟨⟩
theorem tw14370386658969478480:True:=⟨⟩
theorem tw12225135901711748265:True:=⟨⟩
theorem tw4034237057604017314:True:=⟨⟩
theorem tw1030265837826308188:True:=⟨⟩
theorem tw15307555296725760018:True:=⟨⟩
theorem tw10007353712903731663:True:=⟨⟩
theorem tw12458559971494233752:True:=⟨⟩
theorem tw5064106910145012270:True:=⟨⟩
theorem tw15911846234785480204:True:=⟨⟩
theorem tw14471422382755337494:True:=⟨⟩
theorem tw9090827497608521915:True:=⟨⟩
theorem tw9042826436871605349:True:=⟨⟩
theorem tw1185523710047016608:True:=⟨⟩
theorem tw7105100769937892608:True:=⟨⟩
theorem tw9925673125871237740:True:=⟨⟩
theorem tw9478584804087419447:True:=⟨⟩
end PySem.W.Fast
open PySem PySem.W PyProof.Rows
set_option maxRecDepth 100000 in
set_option maxHeartbeats 0 in
theorem PySem.Challenge.cw_rookborders_k38_classes_and_rows_holds : PySem.Challenge.rw_rookborders_k38_classes_and_rows.Holds := by
 w_on;o_law;k_head;(case hw=>w_witness2)
 k_fill
 refine Lake.walkD (l:=X6) (k:=10) (x:="_law_script") rfl rfl ⟨rfl,by decide,by decide⟩ (λw h Y=>W.kIn_of Y) ?F
 case F=>
  intro w mg fa h KX G hmg;refine' Lake.all_mk KX G hmg (Lake.Bt.mk ?_ ?_ ?_ ?_ ?_ ?_ ?_ ?_ ?_ ?_ ?_ ?_ ?_ ?_ ?_ ?_ ?_ ?_ ?_ ?_ ?_ ?_ ?_ ?_ ?_ ?_ ?_ ?_ ?_ ?_ ?_ ?_ ?_ ?_ ?_ ?_ ?_ ?_ ?_ ?_ ?_ ?_ ?_ ?_ ?_ ?_ ?_ ?_ ?_ ?_ ?_ ?_ ?_ ?_ ?_ ?_) ?_ ?_ ?_ ?_
  all_goals first
   |(refine' Lake.df_of KX G ?_ ?_ ?_ ?_ λ_ _ _ _ _ _ us hl=>Lake.ar1 us hl λ_=>rfl)<;>try k_is
   |(refine' Lake.df_of KX G ?_ ?_ ?_ ?_ λ_ _ _ _ _ _ us hl=>Lake.ar2 us hl λ_ _=>rfl)<;>try k_is
   |(refine' Lake.df_of KX G ?_ ?_ ?_ ?_ λ_ _ _ _ _ _ us hl=>Lake.ar3 us hl λ_ _ _=>rfl)<;>try k_is
   |(refine' Lake.df_of KX G ?_ ?_ ?_ ?_ λ_ _ _ _ _ _ us hl=>Lake.ar4 us hl λ_ _ _ _=>rfl)<;>try k_is
   |(refine' W.mg_none_of KX G ?_)<;>try k_is
   |try k_is
