import PyProof.Rows.All
import Wide.All
import OpenK.AllK
import Wide.FinOn
import PyProof.EqAt
import PyProof.EqKinds
import PyProof.TupleCall
import PyProof.NeKinds
import PyProof.FactsAll.tuple_2
import PyProof.FactsAll.tuple_3
import PyProof.ListRange
import KE.KSortTup
import PyProof.EnumMake
import PyProof.AutoSeq1
import PyProof.Rows.SeqMore
import KE.KIsAll
import PyProof.ExcArgsOwn
import PyProof.ExcBaseAll.ValueError
import PyProof.ExcAttrAll.ValueError
import OpenK.KOwn
import PyProof.RulesAs
import PyProof.AutoRange
import PyProof.SeqRoads2
import PyProof.ZipIter
import PyProof.StrCalls2
import KE.KDictSum
import PyProof.SumAny
import KE.KRevIter
import PyProof.Rows.FStr
import PyProof.Rows.FStrParts
import KE.KRevSl
import Lean
import PySem.Challenge.RW_rookborders_k53_whole_rows_exchanged
set_option bootstrap.genMatcherCode false
set_option Elab.async false
set_option linter.all false
set_option maxRecDepth 100000
set_option maxHeartbeats 1000000
set_option linter.defProp false
open List renaming range→ND,mem_range→NF,length_map→NK,getElem?_eq_getElem→NL,replicate→NR,map_cons→NS,all_eq_true→NW,getElem?_eq_some_iff→NY,mem_cons_of_mem→N3,mem_map→N5,map_map→N6,getElem?_set_ne→N7,size_toArray→N9,mem_cons→Oc,mem_cons_self→Oe,length_append→Of,getElem?_set_self→Og,nodup_range→Oh,flatMap_cons→Oj,mem_singleton→Om,length_cons→On,mem_append_right→Op,map_congr_left→Oq,perm_ext_iff_of_nodup→Ou,getElem?_append_right→Ox,getD_eq_getElem?_getD→Oy,getElem?_append_left→OA,sum_cons→OC,mem_iff_getElem?→OD,mem_of_getElem?→OF,getElem?_map→OH,getD→OJ,mem_filter→OU,filter_eq_self→OW,pairwise_map→OY,getElem?_replicate→OZ,append_nil→O2,map_append→O3,length_singleton→O7,getElem?_eq_none→O8,length_range→Pc,length_filter_le→Pf,append_assoc→Pj,pairwise_lt_range→Pp,mem_append→Pt,mem_flatMap→Pv,drop_eq_getElem_cons→PH,nodup_cons→PQ,toArray→PR,count_pos_iff→PV,length_eraseIdx→PX,mem_append_left→PZ,getElem?_cons_zero→P1,not_mem_nil→P2,take_of_length_le→P5,pairwise_iff_getElem→Qc,getElem?_zip_eq_some→Qd,map_flatMap→Qf,nodup_append→Qn,getElem?_cons_succ→Qq,map_nil→Qu,drop_eq_nil_of_le→Qw,range_succ_eq_map→Qx,length_take→Qy,lookup_cons→Qz,pairwise_cons→QA,nodup_iff_pairwise_ne→QI,any_eq_false→QU,any_cons→QY,filterMap_cons→Q0,isEmpty_nil→Q3,filter_cons_of_neg→Q4,filter_cons_of_pos→Q5,range'→Q6,take_append_drop→Rm,eraseIdx_sublist→Rn,length→Rx,getElem?_range→RE,drop_succ_cons→RF,foldl_cons→RM,length_nil→RP,take_sublist→R6,ext_getElem?→Sf,drop_zero→Sj,eraseIdx_eq_take_drop_succ→Sq,length_replicate→Ss,pairwise_flatMap→Sv,mem_eraseIdx_iff_getElem?→Sy,filter_cons→Sz,ext_getElem→SB,getElem_mem→SE,flatMap_nil→SH,range_eq_range'→SO,count_cons→SZ,getElem_of_mem→S4,take_succ_cons→S5,getElem?_take→Ti,mem_filterMap→Tj,lookup_append→To,set_cons_succ→Ts,count_eq_zero→Tu,getLast?_eq_getElem?→Tx,reverse_cons→TR,getElem?_inj→TY,map_id→T0,getElem?_take_of_lt→T4,all_cons→T6,Pairwise→T9,eraseIdx_cons_succ→Uc,cons_append→Ud,range'_succ→Uh,any_eq_true→Ul,getElem?_eraseIdx→Ur,all_map→Uy,any_map→UB,flatMap_singleton→UG,of_mem_zip→UJ,range_succ→UM,sum_append→UN,perm_append_comm→UZ,mem_of_mem_take→U0,mem_of_mem_drop→U1,getElem_toArray→Va,nodup_nil→Vf,nodup_iff_count→Vi,filter_sublist→Vv,mem_map_of_mem→Vw,flatMap_append→Vx,map_take→VB,map_drop→VC,Nodup→VN,zip_cons_cons→VP,perm_middle→Ws,getElem_inj→Wv,flatMap_def→WG,nil_append→WV,length_set→WW,map→XE,filter→jaS
open PySem renaming wpAny_bind→NE,Value→NG,Shared→NH,wpAny_pure→NJ,wpAny→N1,starEach→N8,sizeLine→Oi,Program→OI,Around→OL,wpAny_mono→OM,mainGlobals→OR,World→OT,mem_of_lookup→OV,wpAny_holding→O5,foldedSetIterable→O6,wpAny_call_entry→Pa,wpAny_setState_of→Pk,wpAny_truthy_bool→Pl,assignEach→Ps,wpAny_newObj_type→Pw,compareOp→Px,sizeLine_eq→PB,bootBuiltins→PF,SetTable→PN,cLine→PY,wpAny_callSpecial?_slot→P0,cellsFrom→Qa,wpAny_standAt→Qi,backTo→Ql,codeAny→Qp,Scope→Qr,NameKind→Qs,FuncData→QC,wpAny_passesOwn→QL,letOwnedTupleGo→QM,wpAny_loadPart'→QN,wpAny_field→QT,behindInMarks→QW,wpAny_comprehension_free→QX,swapsWith→Q1,assign→Q2,Spec→Q8,codeAny_mono→Rb,Builtin→Rc,wpAny_setField_rec→Rf,codeAny_builtin→Ri,wpAny_ite_split→RQ,wpAny_pyIter_tuple→RT,wpAny_Call_Name_kw→RU,unsupported→RW,sliceBounds→RY,pyNext→R8,rawInt→R9,relabel→Sb,newFunctionEnv→Sc,codeAny_compStart_list→Sd,wpAny_setField→Si,wpAny_forIn_list→SA,wpAny_askSetting→SD,attributeBase→SL,binaryOp→SN,wpAny_specialOf→SU,wpAny_execs_nil→SV,Keyword→S9,wpAny_seqItems→Tk,firstArgMember→Tr,tupleKind_room_in1→Tt,ofAClassStatement→TC,wpAny_storeSet_of→TD,wpAny_assign_Name→TH,holding→TJ,standAt→TL,wpAny_pyIter_list→TM,slot_list_getitem→TN,keywordEach→TQ,Result→T3,wpAny_getItem_list_slice→T5,wpAny_attempt→T8,putSet_of→Ub,compEnvC→Ue,wpAny_isInstance→Uj,wpAny_pyNext_list_item→Ut,callerA→Uw,IsEnum→UC,theTreesLotGoes→UK,codeAny_of_tree→UL,wpAny_isSame_ref_self→UO,wpAny_isTrue_Compare1→UP,wpAny_pyNext_list_end→UQ,exec_Assign_Name_used→UR,builtinLookup_eq_fast→UY,wpAny_loadName_local→U2,pyIter→U3,again→U4,subscripted→U5,wpAny_of_eq→Vb,isSubtype_type→Ve,newList→Vl,wpAny_loadName_cell→Vn,wpAny_setEntries_of→Vu,CmpOp→VD,swapsWithSole→VE,swappedStores→VF,evalPart_none→VG,wpAny_newList→VL,plainId_quiet→VM,builtinsNs→VU,wpAny_rule→VW,searchCouldBeSeen→V3,BindsTo→V5,seqIndex_neg→V7,backToKw→V8,codeAny_loop→V9,compTurn→Wa,wpAny_pyIter_enum→Wh,wpAny_pyIter_slot→Wk,setDiscardHashed→Wt,wpAny_eqBool_int→Wu,wpAny_execs_cons→Ww,PassesOwn→Wx,lastMarks→Wy,slicePick→WC,noteFrame→WD,checkBuiltinCall→WF,hashByValue→WL,seqIndex_of→WN,wpAny_noted→WO,pushCells_keeps→WX,typeLookup_type→W1,getItem→W9,carriedByValue→Xc,sysModules→Xg,wpAny_Name→Xh,Operator→Xi,wpAny_load→Xj,recursionLimit→Xl,bindL→Xm,bindC→Xn,call_meets→Xq,call→Xr,compPost→Xs,wpAny_newTuple→Xy,wpAny_runValue→Xz,field→XF,isSubtype_stop→XG,entryFor_alias→XJ,wpAny_fieldsOf→XM,wpAny_tryCatch→XO,setSearchFrom→X3,assignInOrder→X5,call_list_seq→X7,eval_ListComp→X8,comprehension→X9,wpAny_handled→Yg,signature?_of→Yh,storeName→Yq,seqIndex?→Yt,IsEnumOut→YD,pickOrder→YH,operate→YZ,collect→Zf,Model→ZZ,bindArgs→Z5
open PySem.Heap renaming get?_push_of_some→NM,get?_push_size→NZ,lt_size→N0,SameBut→Pd,get?_update_self→Pg,size_push→P8,get?_update_other→Qv,ExtBut→TW
open Option renaming bind_some→NN,bind_eq_some_iff→Oa,map_eq_some_iff→Pq,map_some→Rj,bind→Rz,getD_none→WB,none→jad
open Nat renaming le_of_ble_eq_true→NP,le_refl→NT,lt_of_lt_of_le→NV,ne_of_lt→Oz,le_trans→OE,lt_succ_self→O9,zero_le→Pe,lt_of_le_of_lt→Pz,beq→PU,mod_lt→P4,mod_eq_of_lt→Qg,zero_add→Qt,succ→QE,sub→QJ,pow→QK,lt_trichotomy→QO,ne_of_gt→QQ,lt_irrefl→QV,le_of_lt→Q9,lt_succ_iff→Rh,eq_of_beq_eq_true→Rs,le_of_succ_le→Rv,pow_le_pow_right→Rw,not_lt→Ry,mul_le_mul→RA,le_succ→RZ,pow_succ→R3,lt_trans→R4,mul→So,min_eq_right→SI,mul_assoc→SJ,pow_succ'→SK,add→SM,min_eq_left→S3,add_zero→S7,mul_right_comm→Tg,add_mul→Tz,le_succ_of_le→TU,exists_eq_add_of_le→Ua,le_max_right→Uf,mul_comm→Up,sub_self→Uq,le_of_eq→Ux,not_lt_zero→UI,one_mul→Vd,add_le_add_left→Vo,mul_le_mul_left→Vy,succ_add→VZ,lt_succ_of_lt→Wg,add_comm→Wi,mul_succ→Wp,max_eq_right→WI,pow_add→WJ,div_add_mod→W5,max_eq_left→W6,add_le_add→XQ,succ_mul→YL,ble→Zp,add_mod→ZV,mul_mod→ZW
open Bool renaming and_eq_true→NQ,false_eq_true→NX,eq_iff_iff→Ov,true_and→OB,not_eq_true'→O0,or_eq_true→PD,false_and→PP,not_true→Qh,false_ne_true→Ra,false_or→RL,and_eq_false_iff→Sw,eq_false_iff→TZ,and_eq_true_iff→Vg,or_eq_false_iff→Vh,or_false→VI,not_eq_true→WH,not_false→XI
open PySem.W renaming Frag→NU,mg_none_of→P9,nsIn→Sa,hashAt→Sx,kas_rev→Tb,keepIn→Tn,fnOf→Uu,codeIn→V6,kas_sort→Wd,kas_ask→We,cellsFrom_some→Wz,methodObj→WM,OpenLaw→Yu
open Array renaming length_toList→N4,getElem?_eq_getElem→Ol,getElem?_toList→Ot,getElem?_eq_some_iff→Ph,mem_toList_iff→QP,getD→Q7,getElem?_eq_none→R5,getD_eq_getD_getElem?→Ta,perm_iff_toList_perm→Tq,getElem?_replicate→T1,forIn_toList→VQ,append_assoc→VT,getElem_mem→Wc,replicate→WU,map→YB,toList→YS
open PySem.SetTable renaming below→Os,insertAt→OG,bits→ON,eraseAt→OO,runEnd→OQ,toList_insertAt→Pu,sizeAbove→Py,turns→QB,leap→RG,has→S8,slot→Vz,fill→VA,layClean→V1,grown→Xf,drop→XZ,laid→X2
open PySem.Value renaming none→OP,ref→PM,int→Tf,isInt_shape→V4,bool→jbK,type→jbL
open Option.some renaming inj→OS
open Ne renaming symm→OX
open Int renaming emod_eq_of_lt→O1,toNat_natCast→PL,natCast_emod→Qe,mul_le_mul_of_nonneg_left→Qm,add_emod_right→RV,emod_add_emod→Sn,natCast_add→SY,emod_add_cancel_right→Tw,dvd_of_emod_eq_zero→Uk,toNat→Uo,ofNat→Vm,emod_lt_of_pos→VO,lt_trichotomy→Wj,sub_emod→Wm,emod_nonneg→WS,ediv_nonneg→W0,add_comm→Zl,mul_one→Z4
open List.Pairwise renaming imp_of_mem→O4,filter→Pn,nil→Qo,sublist→Rl,map→jds
open Or renaming inr→Pi,inl→P7
open Classical renaming byContradiction→Po,skolem→SG,propDecidable→Um
open PySem.Builtin.SmallTypes renaming nextOf→PJ,ownedTupleHandOut→RD,ownedTupleIsFree→RI
open PySem.Heap.SameBut renaming update→PK,refl→TX
open PySem.NameKind renaming free→P3,cell→Rk
open PySem.SetTable.layClean renaming free→P6
open PySem.PassesOwn renaming never→Qb
open PySem.F renaming slot_list_append→Qj,type_list_append→Qk,slot_tuple_iterator_next→QG,called_set→Rg,slot_enumerate_next→Rq,plain_list_iadd→Se,args_tuple_iterator_next_1→SX,slot_set_contains→S6,entry_tuple_iterator_next→Td,slot_tuple_index→T7,args_enumerate_next_1→Ui,entry_enumerate_next→UD,plainAttrs_set→UF,entry_proto_collect→UW,plain_proto_collect→UX,entry_list_iadd→Wf,slot_set_iter→W2,plain_set_new→W3
open PySem.Obj renaming mapSeq→QD,data_mapFields→QH,isFreed_of_fields→Rp,mapFields→RJ,cls_mapFields→TV,putSet→Us
open PySem.SeqAt renaming EqAt→QF,RcNeAt→Wb,RcAt→Xu
open PySem.Around renaming under_plainId→QR
open PySem.Builtin.Frozenset renaming addrOf→QZ,oneOther→RB,withSetAsKey→SF,newClass→XN,sizeOf→Yi,slot0→YI
open PyProof.Rows renaming seqObj→Ro,callWith_type1→Ru,AllBare→R7,sortedHeap→SC,envOfC→SW,subscriptTail_builtinR→Uv,IntsAre→Vk,subscriptTail→VH,listUpdate_at→VJ,callWith_builtin1→WA,seqEpoch_at→WP,entry_list_sort→WZ,callWith_type0→W8,Subscript_→Xp,sortedHeap_old→XA,slot_list_sort→XB,args_list_sort→XD,sortedHeap_at→Ye,tail_any→Z8
open List.Perm renaming append_left→Rr,refl→Sm,append_right→UH,swap→Vc,of_eq→W4,map→Ym
open PySem.Str renaming ofString→RC
open PySem.Paired renaming length→RH
open PySem.W.KasT renaming kasWp_bind→RO
open List.Nodup renaming sublist→RS,length_le_of_subset→Wr
open PySem.Builtin.Range renaming rangeSize→RX
open Nat.succ renaming inj→Sk
open PySem.SetTable.sizeAbove renaming go→Sr
open PySem.Challenge renaming pw_rookborders_k53_whole_rows_exchanged→SQ,rw_rookborders_k53_whole_rows_exchanged→SS
open PySem.Builtin.List renaming listExtendWith→Tc,listLengthHint→Te
open PySem.Calls renaming Name_function_global→Tl,call_function_entry→Tv
open PySem.SeqAt.EqAt renaming of_refs→Tp,tuple_list→US,none_list→U6,bool_list→U7,int_list→Vp,str_list→Vq,int_str→VR,str_int→VS,same→WY,none_tuple→Zt,bool_tuple→Zu,tuple_none→Zv,tuple_bool→Zw,list_tuple→Zx
open PySem.SetTable.probe renaming go→TB
open Sum renaming inl→TF,inr→Vj
open PySem.SeqAt.RcNeAt renaming tuple_list→Ug,none_list→Uz,bool_list→UA,int_list→UU,str_list→UV,lists_lengths→Xv,none_tuple→Yw,bool_tuple→Yx,tuple_none→Yy,tuple_bool→Yz,list_tuple→YA,none_none→Y4,none_bool→Y5,bool_none→Y6,bool_bool→Y7,int_tuple→Y8,str_tuple→Y9,tuple_int→Za,tuple_str→Zb,list_none→Zc,list_bool→Zd,none_int→ZD,none_str→ZE,bool_int→ZF,bool_str→ZG,int_none→ZH,int_bool→ZI,str_none→ZJ,str_bool→ZK,list_int→ZL,list_str→ZM,int_int→jay,int_str→jaz,str_int→jaA,str_str→jaB,tuples→jbe,lists→jce
open PySem.List renaming filterMap_getElem?_range_length→UE
open PySem.SeqAt.RcAt renaming tuple_list→UT,none_list→U8,bool_list→U9,int_list→Vr,str_list→Vs,lists_lengths→Ya,none_tuple→Zy,bool_tuple→Zz,tuple_none→ZA,tuple_bool→ZB,list_tuple→ZC
open PySem.Builtin.Int renaming intBits→Vt
open PySem.Heap.IsSliceOf renaming new→VV
open PySem.SetTable.below renaming go→V0
open PySem.IsTupleKey renaming typeIs→V2
open Iff renaming rfl→Wo
open And renaming intro→WE
open Prod.mk renaming inj→WR
open Prod renaming ext→Xb
open PySem.Fin renaming done→XC
open PySem.Builtin.Tuple renaming tupleHashOf→XU
open PySem.W.Looks renaming now→YC
open PySem.W.KatTups renaming cons→Zj
open PySem.pickOrder renaming go→Zo
open Nat.Coprime renaming pow_left→ZU
open PySem.Data renaming seq→jac
open PySem.SetTable.Slot renaming dummy→jaV
open PySem.W.WShape renaming has→jca
namespace L2
open PySem
theorem rX {n:Nat}{l:List Nat}(nd:l.Nodup)(h: ∀z∈l,z<n):l.length<=n:=by
 have p:l.Perm ((ND n).filter λz=>decide (z∈l)):=(Ou nd (Pn _ Oh)).mpr λz=>by
  rw[OU,NF,decide_eq_true_eq];exact⟨λq=>⟨h z q,q⟩,λq=>q.2⟩
 rw[p.length_eq];exact OE (Pf _ _) (by simp)
def jM:Nat->Nat
 |0=>0
 |n+1=>5*jM n+1
theorem uB(m:Nat): ∀n,jM (m+n)=5^n*jM m+jM n
 |0=>by simp[jM]
 |n+1=>by
  show 5*jM (m+n)+1=_;rw[uB m n,R3];show _=5^n*5*jM m+(5*jM n+1);rw[Nat.mul_add,Tg,Up 5 (5^n*jM m)];omega
theorem AF: ∀n,jM n % 2=n % 2
 |0=>rfl
 |n+1=>by have:=AF n;show(5*jM n+1) % 2=_;omega
theorem qh: ∀n,5^n=4*jM n+1
 |0=>rfl
 |n+1=>by rw[R3,qh n];show _=4*(5*jM n+1)+1;omega
theorem Na(k a:Nat)(h:a % 2=1):Nat.Coprime (2^k) a:=by
 refine ZU k ?_
 show Nat.gcd 2 a=1;rw[Nat.gcd_rec,h];decide
theorem AA: ∀(k d:Nat),2^k∣jM d->2^k∣d
 |0,d,_=>by simp
 |k+1,d,h=>by
  have hp:=AF d;have h2:2∣jM d:=Nat.dvd_trans ⟨2^k,by rw[R3,Up]⟩ h;obtain⟨e,rfl⟩: ∃e,d=e+e:=⟨d / 2,by have:=Nat.mod_eq_zero_of_dvd h2;omega⟩
  have e1:jM (e+e)=2*(jM e*(2*jM e+1)):=by
   rw[uB,qh];have:(4*jM e+1)*jM e+jM e=(2*(2*jM e+1))*jM e:=by
    rw[<-YL];congr 1;omega
   rw[this,SJ,Up (2*jM e+1)]
  rw[e1,R3,Up] at h;have h3:=Nat.dvd_of_mul_dvd_mul_left (by omega) h;have h4:=(Na k (2*jM e+1) (by omega)).dvd_of_dvd_mul_right h3;obtain⟨q,hq⟩:=AA k e h4;exact⟨q,by rw[R3];rw[show 2^k*2*q=2^k*q+2^k*q by rw[Tg];omega,<-hq]⟩
def z0(M:Nat):Nat->Nat->Nat
 |0,i=>i
 |n+1,i=>(z0 M n i*5+1) % M
theorem uk(M i:Nat): ∀n,z0 M n i % M=(5^n*i+jM n) % M
 |0=>by simp[z0,jM]
 |n+1=>by
  show(z0 M n i*5+1) % M % M=_;rw[Nat.mod_mod,ZV,ZW,uk M i n,<-ZW,<-ZV];congr 1;show(5^n*i+jM n)*5+1=5^(n+1)*i+(5*jM n+1);rw[R3,Tz,Tg];omega
theorem GH {k i m d:Nat}(h:z0 (2^k) m i % 2^k=z0 (2^k) (m+d) i % 2^k):2^k∣d:=by
 rw[uk,uk,uB,WJ] at h;have e:5^m*5^d*i+(5^d*jM m+jM d)=5^m*i+jM m+jM d*(4*(5^m*i+jM m)+1):=by
  rw[qh d];generalize 5^m=a;generalize jM m=b;generalize jM d=c;grind
 rw[e] at h;have h2:(jM d*(4*(5^m*i+jM m)+1)) % 2^k=0:=by
  have hd:=Nat.sub_mod_eq_zero_of_mod_eq h.symm;rw[Nat.add_sub_cancel_left] at hd;exact hd
 exact AA k d ((Na k _ (by omega)).dvd_of_dvd_mul_right (Nat.dvd_of_mod_eq_zero h2))
theorem JO {k:Nat}{i:Nat}(hi:i<2^k){j:Nat}(hj:j<2^k): ∃n,n<2^k/\z0 (2^k) n i=j:=by
 have lt: ∀n,z0 (2^k) n i<2^k:=λn=>by
  cases n with
  |zero=>exact hi
  |succ n=>exact P4 _ (Nat.two_pow_pos k)
 have nd:((ND (2^k)).map λn=>z0 (2^k) n i).Nodup:=by
  rw[VN,OY];refine O4 (λ{a b} ha hb hab e=>?_) Pp;rw[NF] at hb;obtain⟨d,rfl⟩:=Nat.exists_eq_add_of_lt hab;have:=GH (k:=k) (i:=i) (m:=a) (d:=d+1) (by rw[show a+(d+1)=a+d+1 by omega,<-e]);have:=Nat.le_of_dvd (by omega) this;omega
 by_cases h:j∈(ND (2^k)).map λn=>z0 (2^k) n i
 ·obtain⟨n,hn,e⟩:=N5.mp h;exact⟨n,NF.mp hn,e⟩
 ·exfalso
  have h1:=rX (n:=2^k) (PQ.mpr ⟨h,nd⟩) (λz hz=>by
   rcases Oc.mp hz with rfl|hz
   ·exact hj
   ·obtain⟨n,_,rfl⟩:=N5.mp hz;exact lt n)
  simp at h1;omega
abbrev Pb:=SetTable.Probe
def zM(mask:Nat)(p:Pb):Pb:=
 if p.more>0 then {p with j:=p.j+1,more:=p.more-1} else
 {p with j:=(RG mask p.i p.perturb).1,more:=OQ mask (RG mask p.i p.perturb).1- (RG mask p.i p.perturb).1,i:=(RG mask p.i p.perturb).1,perturb:=(RG mask p.i p.perturb).2}
theorem xD(t:PN)(p:Pb):t.advance p=zM t.mask p:=rfl
theorem BU(mask:Nat)(p:Pb)(d:Option Nat):zM mask {p with dummy:=d}={zM mask p with dummy:=d}:=by
 unfold zM;dsimp only;split<;>rfl
def kY(mask i perturb:Nat)(d:Option Nat):Pb:={j:=i,more:=OQ mask i-i,i:=i,perturb:=perturb,dummy:=d}
def dU(mask:Nat):Nat->Pb->Pb
 |0,p=>p
 |n+1,p=>dU mask n (zM mask p)
theorem mN(mask m:Nat): ∀(n:Nat) (p:Pb),dU mask (n+m) p=dU mask m (dU mask n p)
 |0,p=>by rw[Qt];rfl
 |n+1,p=>by rw[VZ];exact mN mask m n (zM mask p)
theorem iP(mask n:Nat)(p:Pb):dU mask (n+1) p=zM mask (dU mask n p):=mN mask 1 n p
theorem l8(mask:Nat)(d:Option Nat): ∀(n:Nat) (p:Pb),dU mask n {p with dummy:=d}={dU mask n p with dummy:=d}
 |0,p=>rfl
 |n+1,p=>by
  show dU mask n (zM mask {p with dummy:=d})=_;rw[BU,l8 mask d n];rfl
theorem ut(mask:Nat): ∀(n:Nat) (p:Pb),n<=p.more->dU mask n p={p with j:=p.j+n,more:=p.more-n}
 |0,p,_=>rfl
 |n+1,p,h=>by
  show dU mask n (zM mask p)=_;have:zM mask p={p with j:=p.j+1,more:=p.more-1}:=if_pos (by omega);rw[this,ut mask n _ (by show n<=p.more-1;omega)];show({p with j:=p.j+1+n,more:=p.more-1-n}:Pb)={p with j:=p.j+(n+1),more:=p.more- (n+1)};rw[show p.j+1+n=p.j+(n+1) by omega,show p.more-1-n=p.more- (n+1) by omega]
theorem v3(mask:Nat)(p:Pb):dU mask (p.more+1) p=kY mask ((p.i*5+1+p.perturb / 32) % (mask+1)) (p.perturb / 32) p.dummy:=by
 rw[iP,ut mask p.more p (NT _)];unfold zM;dsimp only;rw[Uq,if_neg (by omega)];rfl
theorem Bq(mask i perturb:Nat)(d:Option Nat):(kY mask i perturb d).more<=9:=by
 show OQ mask i-i<=9;unfold OQ;split<;>omega
def lp(mask:Nat):Nat->Nat×Nat->Nat×Nat
 |0,x=>x
 |n+1,x=>lp mask n ((x.1*5+1+x.2 / 32) % (mask+1),x.2 / 32)
theorem zm(mask:Nat)(d:Option Nat): ∀(n i perturb:Nat),∃m,m<=10*n/\dU mask m (kY mask i perturb d)=kY mask (lp mask n (i,perturb)).1 (lp mask n (i,perturb)).2 d
 |0,i,perturb=>⟨0,by omega,rfl⟩
 |n+1,i,perturb=>by
  obtain⟨m,h1,h2⟩:=zm mask d n ((i*5+1+perturb / 32) % (mask+1)) (perturb / 32);have lm:=Bq mask i perturb d;refine⟨(kY mask i perturb d).more+1+m,by omega,?_⟩;rw[mN,v3];exact h2
theorem Gi {k mask:Nat}(hk:mask+1=2^k): ∀(n i:Nat),lp mask n (i,0)=(z0 (2^k) n i,0):=by
 have key: ∀(n:Nat) (x:Nat),z0 (2^k) n ((x*5+1) % 2^k)=z0 (2^k) (n+1) x:=by
  intro n
  induction n with
  |zero=>intro x;rfl
  |succ n ih=>intro x;show(z0 (2^k) n ((x*5+1) % 2^k)*5+1) % 2^k=_;rw[ih x];rfl
 intro n
 induction n with
 |zero=>intro i;rfl
 |succ n ih=>
  intro i;show lp mask n ((i*5+1+0 / 32) % (mask+1),0 / 32)=_;rw[Nat.zero_div,S7,hk,ih,key]
theorem ES(mask:Nat): ∀(m n:Nat) (x:Nat×Nat),lp mask (m+n) x=lp mask n (lp mask m x)
 |0,n,x=>by rw[Qt];rfl
 |m+1,n,x=>by rw[VZ];exact ES mask m n _
theorem AD(mask:Nat): ∀(n i perturb:Nat),(lp mask n (i,perturb)).2=perturb / 32^n
 |0,i,perturb=>by simp[lp]
 |n+1,i,perturb=>by
  show(lp mask n _).2=_;rw[AD,Nat.div_div_eq_div_mul,<-SK]
theorem Hq(mask:Nat): ∀(n:Nat) (x:Nat×Nat),x.1<=mask->(lp mask n x).1<=mask
 |0,x,h=>h
 |n+1,x,_=>Hq mask n _ (Rh.mp (P4 _ (by omega)))
theorem C1 {k mask:Nat}(hk:mask+1=2^k){i perturb:Nat}(hi:i<=mask)(hp:perturb<2^64){j:Nat}(hj:j<=mask): ∃n,n<=13+mask/\(lp mask n (i,perturb)).1=j:=by
 have e13:lp mask 13 (i,perturb)=((lp mask 13 (i,perturb)).1,0):=by
  have:=AD mask 13 i perturb;rw[Nat.div_eq_of_lt (NV hp (by decide))] at this;exact Xb rfl this
 obtain⟨n,hn,e⟩:=JO (k:=k) (i:=(lp mask 13 (i,perturb)).1) (by have:=Hq mask 13 (i,perturb) hi;omega) (j:=j) (by omega);refine⟨13+n,by omega,?_⟩;rw[ES,e13,Gi hk];exact e
def tJ(mask:Nat)(h:Int)(d:Option Nat):Pb:=kY mask (ON h % (mask+1)) (ON h) d
def Jx(mask:Nat)(h:Int)(m:Nat):Nat:=(dU mask m (tJ mask h none)).j
theorem JP(mask:Nat)(h:Int)(m:Nat)(d:Option Nat):(dU mask m (tJ mask h d)).j=Jx mask h m:=by
 have:tJ mask h d={tJ mask h none with dummy:=d}:=rfl;rw[this,l8];rfl
theorem AG(h:Int):ON h<2^64:=by
 unfold ON;have h1:0<=h % (2^64:Int):=WS _ (by decide);have h2:h % (2^64:Int)<2^64:=VO _ (by decide);have h3:((2:Int)^64)=((2^64:Nat):Int):=by decide
 omega
theorem JH {k mask:Nat}(hk:mask+1=2^k)(h:Int){j:Nat}(hj:j<=mask): ∃m,m<=10*(13+mask)/\Jx mask h m=j:=by
 obtain⟨n,hn,e⟩:=C1 hk (i:=ON h % (mask+1)) (perturb:=ON h) (Rh.mp (P4 _ (by omega))) (AG h) hj;obtain⟨m,hm,e2⟩:=zm mask none n (ON h % (mask+1)) (ON h);refine⟨m,by omega,?_⟩;show(dU mask m (kY mask (ON h % (mask+1)) (ON h) none)).j=j;rw[e2];exact e
def Ris(xs:Array Nat):Prop:=xs.toList.Pairwise (·< ·)
theorem Ris.lt {xs:Array Nat}(r:Ris xs){i j:Nat}(hij:i<j){a b:Nat}(ha:xs[i]? =some a)(hb:xs[j]? =some b):a<b:=by
 rw[<-Ot] at ha hb;obtain⟨h1,e1⟩:=NY.mp ha;obtain⟨h2,e2⟩:=NY.mp hb;have:=Qc.mp r i j h1 h2 hij;rw[e1,e2] at this;exact this
theorem Ris.inj {xs:Array Nat}(r:Ris xs){i j:Nat}{a:Nat}(ha:xs[i]? =some a)(hb:xs[j]? =some a):i=j:=by
 rcases QO i j with h|h|h
 ·exact absurd (r.lt h ha hb) (by omega)
 ·exact h
 ·exact absurd (r.lt h hb ha) (by omega)
structure Bel(xs:Array Nat)(j p:Nat):Prop where
 le:p<=xs.size
 lo: ∀i a,i<p->xs[i]? =some a->a<j
 hi: ∀i a,p<=i->xs[i]? =some a->j<=a
theorem yL {xs:Array Nat}(r:Ris xs)(j:Nat): ∀(fuel lo hi:Nat),hi-lo<=fuel->lo<=hi->hi<=xs.size->(∀i a,i<lo->xs[i]? =some a->a<j)->(∀i a,hi<=i->xs[i]? =some a->j<=a)->Bel xs j (V0 xs j fuel lo hi)
 |0,lo,hi,h1,h2,h3,h4,h5=>by
  have:lo=hi:=by omega
  subst this;exact⟨h3,h4,h5⟩
 |fuel+1,lo,hi,h1,h2,h3,h4,h5=>by
  unfold V0
  by_cases hlt:lo<hi
  ·rw[if_pos hlt];dsimp only;have hm:(lo+hi) / 2<xs.size:=by omega
   have em:xs[(lo+hi) / 2]? =some xs[(lo+hi) / 2]:=Ol hm;have eg:xs.getD ((lo+hi) / 2) j=xs[(lo+hi) / 2]:=by simp[Q7,hm]
   rw[eg]
   by_cases c:xs[(lo+hi) / 2]<j
   ·rw[if_pos c];refine yL r j fuel _ hi (by omega) (by omega) h3 (λi a hi' ha=>?_) h5
    by_cases e:i=(lo+hi) / 2
    ·subst e;rw[em] at ha;cases ha;exact c
    ·exact R4 (r.lt (by omega) ha em) c
   ·rw[if_neg c];refine yL r j fuel lo _ (by omega) (by omega) (by omega) h4 (λi a hi' ha=>?_)
    by_cases e:i=(lo+hi) / 2
    ·subst e;rw[em] at ha;cases ha;omega
    ·have:=r.lt (by omega) em ha;omega
  ·rw[if_neg hlt];have:lo=hi:=by omega
   subst this;exact⟨h3,h4,h5⟩
theorem KZ {xs:Array Nat}(r:Ris xs)(j:Nat):Bel xs j (Os xs j):=yL r j _ _ _ (by omega) (by omega) (by omega) (λi a h _=>absurd h (by omega)) λi a h e=>by
 rw[R5 h] at e;cases e
theorem tR {xs:Array Nat}(r:Ris xs){j i:Nat}(h:xs[i]? =some j):Os xs j=i:=by
 have b:=KZ r j;rcases QO i (Os xs j) with c|c|c
 ·exact absurd (b.lo i j c h) (by omega)
 ·exact c.symm
 ·have lt:Os xs j<xs.size:=R4 c (Ph.mp h).1;have e:xs[Os xs j]? =some xs[Os xs j]:=Ol lt;have h1:=b.hi _ _ (NT _) e;have h2:=r.lt c e h;omega
theorem ko {xs:Array Nat}(r:Ris xs)(j:Nat):S8 xs j=true↔j∈xs.toList:=by
 unfold S8;rw[beq_iff_eq];constructor
 ·intro h;rw[<-Ot] at h;exact OF h
 ·intro h;obtain⟨i,hi⟩:=OD.mp h;rw[Ot] at hi;rw[tR r hi];exact hi
structure TOk(t:PN)(hs:List Int):Prop where
 pw: ∃k,3<=k/\k<=12/\t.mask+1=2^k
 sz:t.place.size=hs.length
 sp:Ris t.place
 sd:Ris t.dummies
 lp: ∀j∈t.place.toList,j<=t.mask
 ld: ∀j∈t.dummies.toList,j<=t.mask
 dj: ∀j∈t.dummies.toList,j∉t.place.toList
 fl:t.fill<=t.mask
 rc: ∀x∈hs.zip t.place.toList,∃m,Jx t.mask x.1 m=x.2/\ ∀m',m'<m->Jx t.mask x.1 m'∈t.place.toList\/Jx t.mask x.1 m'∈t.dummies.toList
def rV(t:PN)(j:Nat):Prop:=j∈t.place.toList\/j∈t.dummies.toList
section
variable {t:PN}{hs:List Int}(T:TOk t hs)
include T
theorem TOk.mask:t.mask<=4095:=by
 obtain⟨k,h3,h12,e⟩:=T.pw;have:=Rw (n:=2) (by omega) h12;have:(2:Nat)^12=4096:=by decide
 omega
theorem TOk.noway:t.gaveWay=false:=by
 obtain⟨k,h3,h12,e⟩:=T.pw;unfold SetTable.gaveWay;have:2^k % 2=0:=by
  obtain⟨m,rfl⟩:=Ua h3;rw[WJ];omega
 rw[beq_eq_false_iff_ne];omega
theorem oo {j i:Nat}(h:t.place[i]? =some j):t.slot j=.live i:=by
 unfold Vz;rw[tR T.sp h,if_pos (by rw[h];exact beq_self_eq_true _)]
theorem qK {j:Nat}(h:j∈t.dummies.toList):t.slot j=.dummy:=by
 unfold Vz;have e: ¬(t.place[Os t.place j]? ==some j)=true:=λw=>by
  rw[beq_iff_eq,<-Ot] at w;exact T.dj j h (OF w)
 dsimp only;rw[if_neg e,if_pos ((ko T.sd j).mpr h)]
theorem xN {j:Nat}(h: ¬rV t j):t.slot j=.empty:=by
 unfold Vz;have e: ¬(t.place[Os t.place j]? ==some j)=true:=λw=>by
  rw[beq_iff_eq,<-Ot] at w;exact h (.inl (OF w))
 dsimp only;rw[if_neg e,if_neg λw=>h (.inr ((ko T.sd j).mp w))]
theorem TOk.room: ∃j,j<=t.mask/\ ¬rV t j:=by
 refine Po λh=>?_
 have all: ∀j,j<=t.mask->rV t j:=λj hj=>Po λn=>h ⟨j,hj,n⟩
 have nd:(t.place.toList++t.dummies.toList).Nodup:=by
  refine Qn.mpr ⟨T.sp.imp λh=>Oz h,T.sd.imp λh=>Oz h,λa ha b hb e=>?_⟩;subst e;exact T.dj _ hb ha
 have:t.mask+1<=(t.place.toList++t.dummies.toList).length:=by
  have h1:(ND (t.mask+1)).length<=(t.place.toList++t.dummies.toList).length:=by
   refine Wr Oh λj hj=>?_
   rw[NF] at hj;rw[Pt];exact all j (by omega)
  simpa using h1
 have fl:=T.fl;unfold VA at fl;rw[Of,N4,N4] at this;omega
theorem TOk.first(h:Int): ∃M,M<=10*(13+t.mask)/\ ¬rV t (Jx t.mask h M)/\ ∀m,m<M->rV t (Jx t.mask h m):=by
 obtain⟨k,_,_,e⟩:=T.pw;obtain⟨j,hj,hn⟩:=T.room;obtain⟨m,hm,em⟩:=JH e h hj;have ex: ∀n,(∃m,m<=n/\ ¬rV t (Jx t.mask h m))-> ∃M,M<=n/\ ¬rV t (Jx t.mask h M)/\ ∀m,m<M->rV t (Jx t.mask h m):=by
  intro n
  induction n with
  |zero=>rintro⟨m,hm,q⟩;obtain rfl:m=0:=(by omega);exact⟨0,by omega,q,λ_ h=>absurd h (by omega)⟩
  |succ n ih=>
   rintro⟨m,hm,q⟩
   by_cases c: ∃m,m<=n/\ ¬rV t (Jx t.mask h m)
   ·obtain⟨M,h1,h2,h3⟩:=ih c;exact⟨M,by omega,h2,h3⟩
   ·have:m=n+1:=Po λw=>c ⟨m,by omega,q⟩
    subst this;exact⟨n+1,by omega,q,λm' hm'=>Po λw=>c ⟨m',by omega,w⟩⟩
 obtain⟨M,h1,h2,h3⟩:=ex (10*(13+t.mask)) ⟨m,hm,by rw[em];exact hn⟩;exact⟨M,h1,h2,h3⟩
end
def Ll(t:PN)(h:Int)(M:Nat)(d:Option Nat):Prop:= ∀x,d=some x->x∈t.dummies.toList/\ ∃m,m<M/\Jx t.mask h m=x
def J6(t:PN)(Sx:Nat->Int)(h:Int)(m n:Nat):Prop:= ∀m',m<=m'->m'<n-> ∀i:Nat,t.place[i]? =some (Jx t.mask h m')->Sx i≠h
theorem uL(mask:Nat)(h:Int)(m:Nat)(d:Option Nat):dU mask m (tJ mask h d)=⟨Jx mask h m,(dU mask m (tJ mask h none)).more,(dU mask m (tJ mask h none)).i,(dU mask m (tJ mask h none)).perturb,d⟩:=l8 mask d m (tJ mask h none)
section
variable {t:PN}{hs:List Int}(T:TOk t hs)
include T
theorem qy(Sx:Nat->Int){h:Int}{M:Nat}(h1: ¬rV t (Jx t.mask h M))(h2: ∀m,m<M->rV t (Jx t.mask h m)): ∀(fuel m:Nat) (d:Option Nat),M<m+fuel->m<=M->Ll t h M d->
 ∃r,TB t Sx h fuel (dU t.mask m (tJ t.mask h d))=some r/\
  ((∃d',r=.empty (Jx t.mask h M) d'/\Ll t h M d'/\J6 t Sx h m M)\/
   (∃c i d',m<=c/\c<M/\t.place[i]? =some (Jx t.mask h c)/\Sx i=h/\r=.candidate (Jx t.mask h c) i (dU t.mask (c+1) (tJ t.mask h d'))/\Ll t h M d'/\J6 t Sx h m c))
 |0,m,d,q1,q2,_=>absurd q1 (by omega)
 |fuel+1,m,d,q1,q2,hd=>by
  unfold TB;rw[JP]
  by_cases em:m=M
  ·subst em;rw[xN T h1];have ed:(dU t.mask m (tJ t.mask h d)).dummy=d:=by rw[uL]
   exact⟨_,rfl,.inl ⟨d,by rw[ed],hd,λm' a b=>absurd a (by omega)⟩⟩
  ·have lt:m<M:=by omega
   rcases h2 m lt with hu|hu
   ·obtain⟨i,hi⟩:=OD.mp hu;rw[Ot] at hi;rw[oo T hi];dsimp only
    by_cases eh:Sx i=h
    ·rw[if_pos (beq_iff_eq.mpr eh),xD,<-iP];exact⟨_,rfl,.inr ⟨m,i,d,NT _,lt,hi,eh,rfl,hd,λm' a b=>absurd a (by omega)⟩⟩
    ·rw[if_neg (λw=>eh (beq_iff_eq.mp w)),xD,<-iP];obtain⟨r,hr,hc⟩:=qy Sx h1 h2 fuel (m+1) d (by omega) (by omega) hd;have nc: ∀n,J6 t Sx h (m+1) n->J6 t Sx h m n:=λn q m' a b i' hi'=>by
      by_cases e:m'=m
      ·subst e;rw[T.sp.inj hi' hi];exact eh
      ·exact q m' (by omega) b i' hi'
     refine⟨r,hr,?_⟩;rcases hc with⟨d',e,dd,q⟩|⟨c,i',d',a,b,e1,e2,e3,dd,q⟩
     ·exact .inl ⟨d',e,dd,nc _ q⟩
     ·exact .inr ⟨c,i',d',by omega,b,e1,e2,e3,dd,nc _ q⟩
   ·rw[qK T hu];dsimp only;have e:(⟨Jx t.mask h m,(dU t.mask m (tJ t.mask h d)).more,(dU t.mask m (tJ t.mask h d)).i,(dU t.mask m (tJ t.mask h d)).perturb,some (Jx t.mask h m)⟩:Pb)=dU t.mask m (tJ t.mask h (some (Jx t.mask h m))):=by
     rw[uL,uL t.mask h m (some _)]
    rw[xD,e,<-iP];obtain⟨r,hr,hc⟩:=qy Sx h1 h2 fuel (m+1) (some (Jx t.mask h m)) (by omega) (by omega) (λx hx=>by cases hx;exact⟨hu,m,lt,rfl⟩);have nc: ∀n,J6 t Sx h (m+1) n->J6 t Sx h m n:=λn q m' a b i' hi'=>by
     by_cases e:m'=m
     ·subst e;exact absurd (OF (by rw[Ot];exact hi')) (T.dj _ hu)
     ·exact q m' (by omega) b i' hi'
    refine⟨r,hr,?_⟩;rcases hc with⟨d',e,dd,q⟩|⟨c,i',d',a,b,e1,e2,e3,dd,q⟩
    ·exact .inl ⟨d',e,dd,nc _ q⟩
    ·exact .inr ⟨c,i',d',by omega,b,e1,e2,e3,dd,nc _ q⟩
end
theorem fF {α:Type}(xs:Array α)(p:Nat):(OO xs p).toList=xs.toList.eraseIdx p:=by
 unfold OO;rw[Sq];simp[List.extract_eq_take_drop,P5]
theorem sj {l:List Nat}(r:l.Pairwise (·< ·)){p j:Nat}(hp:l[p]? =some j)(x:Nat):x∈l.eraseIdx p↔x∈l/\x≠j:=by
 rw[Sy];constructor
 ·rintro⟨i,ne,e⟩;refine⟨OF e,λw=>ne ?_⟩;subst w;obtain⟨h1,e1⟩:=NY.mp e;obtain⟨h2,e2⟩:=NY.mp hp;rcases QO i p with c|c|c
  ·have:=Qc.mp r i p h1 h2 c;omega
  ·exact c
  ·have:=Qc.mp r p i h2 h1 c;omega
 ·rintro⟨h,ne⟩;obtain⟨i,hi⟩:=OD.mp h;exact⟨i,λw=>by subst w;rw[hp] at hi;cases hi;exact ne rfl,hi⟩
theorem p8 {xs:Array Nat}(r:Ris xs){j:Nat}(n:j∉xs.toList):Ris (OG xs (Os xs j) j):=by
 have b:=KZ r j;unfold Ris;rw[Pu,List.pairwise_append];have hlo: ∀a∈xs.toList.take (Os xs j),a<j:=λa ha=>by
  obtain⟨i,hi⟩:=OD.mp ha;rw[Ti] at hi;split at hi
  ·rename_i c;rw[Ot] at hi;exact b.lo i a c hi
  ·cases hi
 have hhi: ∀a∈xs.toList.drop (Os xs j),j<a:=λa ha=>by
  obtain⟨i,hi⟩:=OD.mp ha;rw[List.getElem?_drop] at hi;have hm:=OF hi;rw[Ot] at hi;have:=b.hi _ a (Nat.le_add_right _ _) hi;have:a≠j:=λw=>n (w▸hm)
  omega
 refine⟨Rl (R6 _ _) r,?_,λa ha c hc=>?_⟩
 ·exact QA.mpr ⟨hhi,Rl (List.drop_sublist _ _) r⟩
 ·rcases Oc.mp hc with rfl|hc
  ·exact hlo a ha
  ·exact R4 (hlo a ha) (hhi c hc)
theorem qZ {α:Type}(xs:Array α)(p:Nat)(x y:α):y∈(OG xs p x).toList↔y=x\/y∈xs.toList:=by
 rw[Pu,Pt,Oc]
 conv=>rhs;rw[<-Rm p xs.toList,Pt]
 constructor
 ·rintro(h|h|h)
  ·exact .inr (.inl h)
  ·exact .inl h
  ·exact .inr (.inr h)
 ·rintro(h|h|h)
  ·exact .inr (.inl h)
  ·exact .inl h
  ·exact .inr (.inr h)
def fP {α:Type}(l:List α)(p:Nat)(x:α):List α:=l.take p++x::l.drop p
theorem FF {α β:Type}(l:List α)(m:List β)(p:Nat)(a:α)(b:β)(h:l.length=m.length):(fP l p a).zip (fP m p b)=fP (l.zip m) p (a,b):=by
 unfold fP;rw[List.zip_append (by rw[Qy,Qy,h]),VP];unfold List.zip;rw[List.take_zipWith,List.drop_zipWith]
theorem TOk.put {t:PN}{hs:List Int}(T:TOk t hs){h:Int}{j:Nat}(hj:j<=t.mask)(n:j∉t.place.toList)(rc: ∃m,Jx t.mask h m=j/\ ∀m',m'<m->rV t (Jx t.mask h m'))
 (fl:(t.put j).1.fill<=t.mask):TOk (t.put j).1 (fP hs (t.put j).2 h):=by
 have el:(t.put j).1.place.toList=fP t.place.toList (t.put j).2 j:=Pu _ _ _;have mp: ∀y,y∈(t.put j).1.place.toList↔y=j\/y∈t.place.toList:=qZ t.place _ j
 have md: ∀y,y∈(t.put j).1.dummies.toList↔y∈t.dummies.toList/\y≠j:=λy=>by
  show y∈(if S8 t.dummies j=true then OO t.dummies (Os t.dummies j) else t.dummies).toList↔_;split
  ·rename_i c
   have c2:=(ko T.sd j).mp c;obtain⟨i,hi⟩:=OD.mp c2;rw[fF,tR T.sd (by rw[<-Ot];exact hi)];exact sj T.sd hi y
  ·rename_i c
   exact⟨λq=>⟨q,λw=>c ((ko T.sd j).mpr (w▸q))⟩,λq=>q.1⟩
 have us: ∀y,rV t y->y∈(t.put j).1.place.toList\/y∈(t.put j).1.dummies.toList:=λy q=>by
  rcases q with q|q
  ·exact .inl ((mp y).mpr (.inr q))
  ·by_cases e:y=j
   ·exact .inl ((mp y).mpr (.inl e))
   ·exact .inr ((md y).mpr ⟨q,e⟩)
 refine⟨T.pw,?_,p8 T.sp n,?_,λy q=>?_,λy q=>T.ld y ((md y).mp q).1,λy q w=>?_,fl,λx hx=>?_⟩
 ·rw[<-N4,el];unfold fP;have:=T.sz;rw[<-N4] at this;simp[this]
 ·show Ris (if S8 t.dummies j=true then OO t.dummies (Os t.dummies j) else t.dummies);split
  ·unfold Ris;rw[fF];exact Rl (Rn _ _) T.sd
  ·exact T.sd
 ·rcases(mp y).mp q with rfl|q
  ·exact hj
  ·exact T.lp y q
 ·have q':=(md y).mp q;rcases(mp y).mp w with rfl|w
  ·exact q'.2 rfl
  ·exact T.dj y q'.1 w
 ·rw[el,FF _ _ _ _ _ (by rw[N4];exact T.sz.symm)] at hx;unfold fP at hx;have hx:x=(h,j)\/x∈hs.zip t.place.toList:=by
   rcases Pt.mp hx with q|q
   ·exact .inr (U0 q)
   ·rcases Oc.mp q with q|q
    ·exact .inl q
    ·exact .inr (U1 q)
  rcases hx with rfl|hx
  ·obtain⟨m,e,q⟩:=rc;exact⟨m,e,λm' hm=>us _ (q m' hm)⟩
  ·obtain⟨m,e,q⟩:=T.rc x hx;exact⟨m,e,λm' hm=>us _ (q m' hm)⟩
theorem TOk.drop {t:PN}{hs:List Int}(T:TOk t hs){i j:Nat}(hi:t.place[i]? =some j):TOk (t.drop i) (hs.eraseIdx i):=by
 have ed:t.drop i={t with place:=OO t.place i,dummies:=OG t.dummies (Os t.dummies j) j}:=by
  unfold XZ;rw[hi]
 have hi':t.place.toList[i]? =some j:=by rw[Ot];exact hi
 have jm:j∈t.place.toList:=OF hi';have lt:i<t.place.size:=(Ph.mp hi).1;rw[ed];have el:(OO t.place i).toList=t.place.toList.eraseIdx i:=fF _ _;have mp: ∀y,y∈(OO t.place i).toList↔y∈t.place.toList/\y≠j:=λy=>by rw[el];exact sj T.sp hi' y
 have md:=qZ t.dummies (Os t.dummies j) j;have us: ∀y,rV t y->y∈(OO t.place i).toList\/y∈(OG t.dummies (Os t.dummies j) j).toList:=λy q=>by
  rcases q with q|q
  ·by_cases e:y=j
   ·exact .inr ((md y).mpr (.inl e))
   ·exact .inl ((mp y).mpr ⟨q,e⟩)
  ·exact .inr ((md y).mpr (.inr q))
 refine⟨T.pw,?_,?_,p8 T.sd λw=>T.dj j w jm,λy q=>T.lp y ((mp y).mp q).1,λy q=>?_,λy q w=>?_,?_,λx hx=>?_⟩
 ·show(OO t.place i).size=_;rw[<-N4,el,PX,PX,N4,T.sz]
 ·show Ris (OO t.place i);unfold Ris;rw[el];exact Rl (Rn _ _) T.sp
 ·rcases(md y).mp q with rfl|q
  ·exact T.lp y jm
  ·exact T.ld y q
 ·have w':=(mp y).mp w;rcases(md y).mp q with rfl|q
  ·exact w'.2 rfl
  ·exact T.dj y q w'.1
 ·show(OO t.place i).size+(OG t.dummies (Os t.dummies j) j).size<=t.mask;have fl:=T.fl;unfold VA at fl;rw[<-N4,el,PX,<-N4 (xs:=OG _ _ _),Pu,if_pos (by rw[N4];exact lt)];simp;omega
 ·have hx:x∈(hs.eraseIdx i).zip (t.place.toList.eraseIdx i):=by rw[<-el];exact hx
  have:x∈hs.zip t.place.toList:=by
   obtain⟨n,hn⟩:=OD.mp hx;rw[Qd,Ur,Ur] at hn;obtain⟨h1,h2⟩:=hn;split at h1
   ·rw[if_pos (by assumption)] at h2;exact OD.mpr ⟨n,Qd.mpr ⟨h1,h2⟩⟩
   ·rw[if_neg (by assumption)] at h2;exact OD.mpr ⟨n+1,Qd.mpr ⟨h1,h2⟩⟩
  obtain⟨m,e,q⟩:=T.rc x this;exact⟨m,e,λm' hm=>us _ (q m' hm)⟩
abbrev oH:=Array (Option Nat)
def Fg(ow:oH)(j:Nat):Prop:=ow[j]? =some none
def FV(ow:oH)(j:Nat):Prop:= ∃k,ow[j]? =some (some k)
theorem fre_is {ow:oH}{j:Nat}:(ow.getD j (some 0)).isNone=true↔Fg ow j:=by
 unfold Fg Q7
 by_cases h:j<ow.size
 ·simp only[h,dite_true];rw[Ol h];show(ow[j]).isNone=true↔_;rw[Option.isNone_iff_eq_none,Option.some.injEq]
 ·simp[h]
theorem yt {ow:oH}{j:Nat}(h:j<ow.size)(n: ¬Fg ow j):FV ow j:=by
 unfold Fg at n;unfold FV;rw[Ol h] at n⊢;cases e:ow[j] with
 |none=>rw[e] at n;exact absurd rfl n
 |some k=>exact⟨k,rfl⟩
def Jl(mask i p m:Nat):Nat:=(dU mask m (kY mask i p none)).j
theorem oG {mask i:Nat}(hi:i<=mask):OQ mask i<=mask/\i<=OQ mask i:=by
 unfold OQ;split<;>omega
theorem xX {mask i p m:Nat}(h:i+m<=OQ mask i):Jl mask i p m=i+m:=by
 unfold Jl;rw[ut mask m _ (show m<=OQ mask i-i by omega)];rfl
theorem zZ(mask i p m:Nat):Jl mask i p ((OQ mask i-i)+1+m)=Jl mask ((i*5+1+p / 32) % (mask+1)) (p / 32) m:=by
 unfold Jl;rw[mN];have:=v3 mask (kY mask i p none);have e:(kY mask i p none).more=OQ mask i-i:=rfl;rw[e] at this;rw[this];rfl
theorem zC {mask:Nat}{ow:oH}(hz:ow.size=mask+1): ∀(fuel i p:Nat),i<=mask->(∃n,n<fuel/\Fg ow (lp mask n (i,p)).1)->
 ∃j m,P6 mask ow fuel i p=some j/\Fg ow j/\Jl mask i p m=j/\ ∀m',m'<m->FV ow (Jl mask i p m')
 |0,i,p,_,⟨n,h,_⟩=>absurd h (UI _)
 |fuel+1,i,p,hi,⟨n,h,hf⟩=>by
  have re:=oG hi;unfold P6;cases e:(ND (OQ mask i+1-i)).find? λk=>(ow.getD (i+k) (some 0)).isNone with
  |some k=>
   have h1:=List.find?_some e;have hk:k<OQ mask i+1-i:=NF.mp (List.mem_of_find?_eq_some e);refine⟨i+k,k,rfl,fre_is.mp h1,xX (by omega),λm' hm=>?_⟩;rw[xX (by omega)];refine yt (by omega) λw=>?_
   rw[List.find?_range_eq_some] at e;have:=e.2.2 m' hm;rw[fre_is.mpr w] at this;exact absurd this (by decide)
  |none=>
   have no: ∀k,k<OQ mask i+1-i-> ¬Fg ow (i+k):=λk hk w=>by
    have:=List.find?_eq_none.mp e k (NF.mpr hk);exact this (fre_is.mpr w)
   dsimp only;obtain⟨j,m,g1,g2,g3,g4⟩:=zC hz fuel ((i*5+1+p / 32) % (mask+1)) (p / 32) (Rh.mp (P4 _ (by omega))) (by
    cases n with
    |zero=>exact absurd hf (no 0 (by omega))
    |succ n=>exact⟨n,by omega,hf⟩)
   refine⟨j,(OQ mask i-i)+1+m,g1,g2,by rw[zZ];exact g3,λm' hm=>?_⟩
   by_cases c:m'<=OQ mask i-i
   ·rw[xX (by omega)];exact yt (by omega) (no m' (by omega))
   ·obtain⟨m2,rfl⟩:=Ua (show OQ mask i-i+1<=m' by omega);rw[zZ];exact g4 m2 (by omega)
structure LInv(mask:Nat)(ow:oH)(hs:List Int):Prop where
 sz:ow.size=mask+1
 lt: ∀(j k:Nat),ow[j]? =some (some k)->k<hs.length
 un: ∀(j j' k:Nat),ow[j]? =some (some k)->ow[j']? =some (some k)->j=j'
 ex: ∀(k:Nat) (h:Int),hs[k]? =some h-> ∃j m:Nat,ow[j]? =some (some k)/\Jx mask h m=j/\ ∀m',m'<m->FV ow (Jx mask h m')
theorem LInv.room {mask:Nat}{ow:oH}{hs:List Int}(I:LInv mask ow hs)(hl:hs.length<=mask): ∃j,j<=mask/\Fg ow j:=by
 refine Po λh=>?_
 have all: ∀j,j<=mask->FV ow j:=λj hj=>yt (by rw[I.sz];omega) λw=>h ⟨j,hj,w⟩
 let f:Nat->Nat:=λj=>((ow[j]?).getD none).getD 0
 have hf: ∀j,j<=mask->ow[j]? =some (some (f j)):=λj hj=>by
  obtain⟨k,e⟩:=all j hj;show _=some (some (((ow[j]?).getD none).getD 0));rw[e];rfl
 have nd:((ND (mask+1)).map f).Nodup:=by
  rw[VN,OY];refine O4 (λ{a b} ha hb hab e=>?_) Pp;rw[NF] at ha hb;have:=I.un a b (f a) (hf a (by omega)) (by rw[e];exact hf b (by omega));omega
 have:=rX nd (n:=hs.length) λz hz=>by
  obtain⟨j,hj,rfl⟩:=N5.mp hz;exact I.lt j _ (hf j (by rw[NF] at hj;omega))
 simp at this;omega
theorem EL {k mask:Nat}(hk:mask+1=2^k){ow:oH}{hs:List Int}(I:LInv mask ow hs)(hl:hs.length<=mask)(h:Int):
 ∃j,P6 mask ow (QB mask) (ON h % (mask+1)) (ON h)=some j/\LInv mask (ow.setIfInBounds j (some hs.length)) (hs++[h]):=by
 obtain⟨jf,h1,h2⟩:=I.room hl;have hi:ON h % (mask+1)<=mask:=Rh.mp (P4 _ (by omega));obtain⟨n,hn,e⟩:=C1 hk hi (AG h) h1;obtain⟨j,m,g1,g2,g3,g4⟩:=zC I.sz (QB mask) _ _ hi ⟨n,by unfold QB;omega,by rw[e];exact h2⟩;have jl:j<ow.size:=by
  unfold Fg at g2;exact(Ph.mp g2).1
 have gs: ∀x,(ow.setIfInBounds j (some hs.length))[x]? =if j=x then some (some hs.length) else ow[x]? :=λx=>by
  rw[Array.getElem?_setIfInBounds];split<;>rfl
 have occ': ∀x,FV ow x->FV (ow.setIfInBounds j (some hs.length)) x:=λx hq_=>by
  obtain⟨q,hq⟩:=hq_;unfold FV;rw[gs];split
  ·exact⟨_,rfl⟩
  ·exact⟨q,hq⟩
 refine⟨j,g1,by rw[Array.size_setIfInBounds];exact I.sz,λx q hq=>?_,λx x' q hq hq'=>?_,λq z hz=>?_⟩
 ·rw[gs] at hq;rw[Of,O7];split at hq
  ·cases hq;omega
  ·have:=I.lt x q hq;omega
 ·rw[gs] at hq hq';split at hq
  ·rename_i c
   cases hq;split at hq'
   ·rename_i c';rw[<-c,<-c']
   ·have:=I.lt _ _ hq';omega
  ·split at hq'
   ·cases hq';have:=I.lt _ _ hq;omega
   ·exact I.un x x' q hq hq'
 ·by_cases c:q<hs.length
  ·rw[OA c] at hz;obtain⟨x,m',e1,e2,e3⟩:=I.ex q z hz;refine⟨x,m',?_,e2,λm'' hm=>occ' _ (e3 m'' hm)⟩;rw[gs,if_neg λw=>?_]
   ·exact e1
   ·subst w;unfold Fg at g2;rw[g2] at e1;cases e1
  ·have hq:q=hs.length:=by
    have:=(NY.mp hz).1;rw[Of,O7] at this;omega
   subst hq;rw[Ox (NT _),Uq] at hz;cases hz;exact⟨j,m,by rw[gs,if_pos rfl],g3,λm' hm=>occ' _ (g4 m' hm)⟩
theorem z7 {k mask:Nat}(hk:mask+1=2^k): ∀(rest hs:List Int) (ow:oH),LInv mask ow hs->hs.length+rest.length<=mask+1->
 ∃ow',rest.foldl (λacc h=>do
  let(owner,k) <-acc
  let j <-P6 mask owner (QB mask) (ON h % (mask+1)) (ON h)
  pure (owner.setIfInBounds j (some k),k+1)) (some (ow,hs.length))=some (ow',hs.length+rest.length)/\LInv mask ow' (hs++rest)
 | [],hs,ow,I,_=>⟨ow,rfl,by rw[O2];exact I⟩
 |h::rest,hs,ow,I,hl=>by
  rw[On] at hl;obtain⟨j,e,I'⟩:=EL hk I (by omega) h;obtain⟨ow',e2,I2⟩:=z7 hk rest (hs++[h]) _ I' (by rw[Of,O7];omega);rw[Of,O7] at e2;refine⟨ow',?_,by rw[Pj] at I2;exact I2⟩
  rw[RM];have:(do
   let(owner,k) <-some (ow,hs.length)
   let j <-P6 mask owner (QB mask) (ON h % (mask+1)) (ON h)
   pure (owner.setIfInBounds j (some k),k+1):Option (oH×Nat))=some (ow.setIfInBounds j (some hs.length),hs.length+1):=by
   show(P6 mask ow (QB mask) (ON h % (mask+1)) (ON h)).bind (λj=>some (ow.setIfInBounds j (some hs.length),hs.length+1))=_;rw[e];rfl
  rw[this,e2,On];congr 2;omega
theorem Bc(mask:Nat):LInv mask (WU (mask+1) none) [] where
 sz:=by simp
 lt:=λj k h=>by
  rw[T1] at h;split at h<;>cases h
 un:=λj j' k h=>by
  rw[T1] at h;split at h<;>cases h
 ex:=λk h e=>by simp at e
def iz(mask:Nat)(ow:oH):List (Nat×Nat):=(ND (mask+1)).filterMap λj=>(ow.getD j none).map (j, ·)
theorem CN {mask:Nat}{ow:oH}(hz:ow.size=mask+1){x:Nat×Nat}:x∈iz mask ow↔ow[x.1]? =some (some x.2):=by
 unfold iz;rw[Tj];constructor
 ·rintro⟨j,hj,e⟩;rw[NF] at hj;have:j<ow.size:=by omega
  simp only[Q7,this,dite_true] at e;obtain⟨k,e1,rfl⟩:=Pq.mp e;show ow[j]? =some (some k);rw[Ol this,<-e1];rfl
 ·intro h;obtain⟨h1,h2⟩:=Ph.mp h;refine⟨x.1,NF.mpr (by omega),?_⟩;simp only[Q7,h1,dite_true];have:ow.getInternal x.1 h1=some x.2:=h2;rw[this];rfl
theorem v8(mask:Nat)(ow:oH):((iz mask ow).map (·.1)).Pairwise (·< ·):=by
 unfold iz;have: ∀l:List Nat,(l.filterMap λj=>(ow.getD j none).map (j, ·)).map (·.1)=l.filter λj=>(ow.getD j none).isSome:=by
  intro l
  induction l with
  |nil=>rfl
  |cons j l ih=>
   rw[Q0,Sz];cases e:ow.getD j none with
   |none=>exact ih
   |some k=>show j::_=_;rw[ih];rfl
 rw[this];exact Pn _ Pp
theorem GU {k mask:Nat}(h3:3<=k)(h12:k<=12)(hk:mask+1=2^k)(finger moves:Nat)(led plain:Bool)(hs:Array Int)(hl:hs.size<=mask):
 ∃place order:Array Nat,X2 mask finger moves led plain hs=some (⟨mask,place, #[],finger,led,moves,plain⟩,order)/\order.toList.Perm (ND hs.size)/\
  TOk ⟨mask,place, #[],finger,led,moves,plain⟩ (order.toList.map λk=>hs.toList.getD k 0):=by
 obtain⟨ow,e,I⟩:=z7 hk hs.toList [] _ (Bc mask) (by simp;omega);rw[WV] at I;have elay:V1 mask hs=some ow:=by
  unfold V1;rw[<-Array.foldl_toList];have e:hs.toList.foldl _ (some (WU (mask+1) none,0))=_:=e;rw[e];rfl
 have mem:= @CN mask ow I.sz;have o1:((iz mask ow).map (·.2)).Nodup:=by
  rw[VN,OY];have:=v8 mask ow;rw[OY] at this;refine this.imp_of_mem λ{a b} ha hb hab w=>?_
  have h1:=mem.mp ha;have h2:=mem.mp hb;rw[<-w] at h2;have:=I.un _ _ _ h1 h2;omega
 have o2: ∀k,k∈(iz mask ow).map (·.2)↔k∈ND hs.size:=λk=>by
  rw[N5,NF];constructor
  ·rintro⟨x,hx,rfl⟩;have:=I.lt _ _ (mem.mp hx);simpa using this
  ·intro h;obtain⟨j,m,h1,_⟩:=I.ex k (hs.toList[k]'(by simpa using h)) (NL _);exact⟨(j,k),mem.mpr h1,rfl⟩
 have occ: ∀x,FV ow x->x∈(iz mask ow).map (·.1):=λx ⟨q,hq⟩=>N5.mpr ⟨(x,q),mem.mpr hq,rfl⟩
 refine⟨((iz mask ow).map (·.1)).toArray,((iz mask ow).map (·.2)).toArray,?_,?_,⟨k,h3,h12,hk⟩,?_,?_,?_,?_,?_,?_,?_,?_⟩
 ·unfold X2;rw[elay];rfl
 ·exact(Ou o1 Oh).mpr o2
 ·simp
 ·exact v8 mask ow
 ·exact Qo
 ·intro j hj;obtain⟨x,hx,rfl⟩:=N5.mp hj;have:=(Ph.mp (mem.mp hx)).1;show x.1<=mask;rw[I.sz] at this;omega
 ·intro j hj;cases hj
 ·intro j hj;cases hj
 ·show((iz mask ow).map (·.1)).toArray.size+0<=mask;have hp:=((Ou o1 Oh).mpr o2).length_eq;simp at hp⊢;omega
 ·intro x hx;have hx:x∈((((iz mask ow).map (·.2)).map λk=>hs.toList.getD k 0)).zip ((iz mask ow).map (·.1)):=hx;rw[N6,List.zip_map'] at hx;obtain⟨y,hy,rfl⟩:=N5.mp hx;have hy':=mem.mp hy;have lt:=I.lt _ _ hy';obtain⟨j,m,e1,e2,e3⟩:=I.ex y.2 (hs.toList[y.2]'lt) (NL _);have ej:=I.un _ _ _ e1 hy';have eg:hs.toList.getD y.2 0=hs.toList[y.2]'lt:=by rw[OJ,NL lt];rfl
  refine⟨m,?_,λm' hm=>.inl ?_⟩
  ·show Jx mask (hs.toList.getD y.2 0) m=y.1;rw[eg,e2,ej]
  ·show Jx mask (hs.toList.getD y.2 0) m'∈((iz mask ow).map (·.1));rw[eg];exact occ _ (e3 m' hm)
theorem mL: ∀(fuel s n:Nat),n<s*2^fuel-> ∃e,e<=fuel/\Sr n fuel s=s*2^e/\n<s*2^e/\(e=0\/s*2^e<=2*n)
 |0,s,n,h=>⟨0,by omega,by simp[Sr],h,.inl rfl⟩
 |fuel+1,s,n,h=>by
  unfold Sr
  by_cases c:s<=n
  ·rw[if_pos c];obtain⟨e,h1,h2,h3,h4⟩:=mL fuel (s*2) n (by rw[SK] at h;rw[SJ];exact h);refine⟨e+1,by omega,by rw[h2,SK,SJ],by rw[SK,<-SJ];exact h3,.inr ?_⟩;rw[SK,<-SJ];rcases h4 with rfl|h4
   ·simp;omega
   ·exact h4
  ·rw[if_neg c];exact⟨0,by omega,by simp,by simp;omega,.inl rfl⟩
theorem mQ {n:Nat}(hn:n<=4095): ∃k,3<=k/\k<=12/\Py n=2^k/\n<2^k:=by
 obtain⟨e,h1,h2,h3,h4⟩:=mL 64 8 n (Pz hn (by decide));have hp:8*2^e=2^(3+e):=by rw[WJ]
 refine⟨3+e,by omega,?_,h2.trans hp,by rw[<-hp];exact h3⟩;rcases h4 with rfl|h4
 ·omega
 ·refine Po λc=>?_
  have:=Rw (n:=2) (by omega) (show 13<=3+e by omega);rw[<-hp] at this;have:(2:Nat)^13=8192:=by decide
  omega
open PySem PySem.Spec PyProof.Rows
def th(ks:List Int):Int:=reduceHash (XU (ks.map hashInt))
abbrev KI(prog:OI)(w:OT):HeapKind prog w (List Int):=tupleKind (intKind prog w)
theorem DF(prog:OI)(w:OT)(ks:List Int):(KI prog w).hash ks=th ks:=rfl
def F4(x:List Int×Addr):Int×Value:=(th x.1,.ref x.2)
abbrev nq:=List (List Int×Addr)
def vX(xs:nq):List Int:=xs.map λx=>th x.1
def FR(prog:OI)(w:OT)(h:Heap)(xs:nq):Prop:= ∀x∈xs,(KI prog w).is h x.1 x.2
structure SetAt(w:OT)(o:Obj)(es:Array (Int×NG))(ep:Nat)(t:PN)(xs:nq):Prop where
 ex:o.ExactSet
 hd:o.data=.set es ep t
 he:es.toList=xs.map F4
 T:TOk t (vX xs)
 led:t.led= !w.params.followText "set-order"
 pl:t.plain=true
 nd:(xs.map (·.1)).Nodup
section
variable {prog:OI}{w:OT}{A:OL}{E:NG->NH->Prop}{s:NH}{a b:Addr}{o:Obj}{es:Array (Int×NG)}{ep:Nat}{t:PN}{xs:nq}{k:List Int}
theorem SetAt.size(S:SetAt w o es ep t xs):es.size=xs.length:=by
 have:=congrArg Rx S.he;simpa using this
theorem SetAt.fits(S:SetAt w o es ep t xs):t.fits es.size=true:=by
 have h1:=S.T.sz;have h2:=S.T.fl;unfold vX at h1;rw[NK] at h1;unfold SetTable.fits;rw[S.size,h1];simp[h2]
theorem SetAt.at_(S:SetAt w o es ep t xs)(i:Nat):es[i]? =(xs[i]?).map F4:=by
 rw[<-Ot,S.he,OH]
theorem oS {k:List Int}(hk:(KI prog w).is s.heap k b){Q:Bool->NH->Prop}(h:Q false s):N1 (model prog w) A (TC 8 (.ref b)) Q E s:=by
 have hT:=V2 (s:=s) hk;obtain⟨o,items,n,ho,hc,hd,hi⟩:=hk;unfold TC;refine NE (wpAny_typeOf hT ?_);dsimp only;rw[if_pos (by decide)];refine NE (NJ ?_);simp only[Qh,NX,if_false];refine NE (Tk ho hd ?_);dsimp only;refine NE ?_
 rw[<-VQ];refine SA _ (λrest r s'=>r.1=none/\s'=s/\ ∀v∈rest,Xc v=true) _ ?_ ?_ _ _ ⟨rfl,rfl,hi.byValue⟩
 ·rintro v rest r s' ⟨hr,rfl,hall⟩;have hv:=hall v Oe;have:TC 7 v=pure false:=by
   cases v with
   |ref a=>simp[Xc] at hv
   |_=>rfl
  rw[this];refine NE (NJ ?_);simp only[NX,if_false];exact NJ ⟨rfl,rfl,λu hu'=>hall u (N3 _ hu')⟩
 ·rintro⟨r1,r2⟩ s' ⟨hr,rfl,_⟩;simp only at hr;subst hr;exact NJ h
theorem tS {k:List Int}(hk:(KI prog w).is s.heap k b){vs:List NG}(hv: ∀v∈vs,∃k' c,v=.ref c/\(KI prog w).is s.heap k' c){Q:Bool->NH->Prop}(h:Q false s):N1 (model prog w) A (V3 (.ref b) vs) Q E s:=by
 unfold V3;refine NE ?_
 refine SA _ (λrest r s'=>r.1=none/\s'=s/\ ∀v∈rest,∃k' c,v=.ref c/\(KI prog w).is s.heap k' c) _ ?_ ?_ _ _ ⟨rfl,rfl,hv⟩
 ·rintro v rest r s' ⟨hr,rfl,hall⟩;obtain⟨k',c,rfl,hc⟩:=hall v Oe;dsimp only;split
  ·exact NJ ⟨rfl,rfl,λu hu'=>hall u (N3 _ hu')⟩
  ·refine NE ((KI prog w).quiet hk ?_);simp only[Qh,NX,if_false];refine NE ((KI prog w).quiet hc ?_);simp only[Qh,NX,if_false];refine NE (oS hk ?_);simp only[NX,if_false];refine NE (oS hc ?_);simp only[NX,if_false];exact NJ ⟨rfl,rfl,λu hu'=>hall u (N3 _ hu')⟩
 ·rintro⟨r1,r2⟩ s' ⟨hr,rfl,_⟩;simp only at hr;subst hr;exact NJ h
def MO(es:Array (Int×NG))(i:Nat):Int:=(es[i]?.map (·.1)).getD 0
theorem BF {α:Type}{m:Sem Bool}{U R:Sem α}{c:Bool}{Q:α->NH->Prop}(hK:N1 (model prog w) A R Q E s)(hm:N1 (model prog w) A m (λb s'=>b=false/\s'=s) E s):
 N1 (model prog w) A (if c=true then(m>>=λx=>if x=true then U else R) else R) Q E s:=by
 split
 ·refine NE (OM hm (λb s' ⟨h1,h2⟩=>?_) λ_ _ x=>x);subst h1 h2;simp only[NX,if_false];exact hK
 ·exact hK
theorem oW(ho:s.heap.get? a=some o)(S:SetAt w o es ep t xs)(hE:FR prog w s.heap xs)(hu:A.units<PY)(hk:(KI prog w).is s.heap k b)(adding:Bool){M:Nat}(hM:M<=10*(13+t.mask))
 (h1: ¬rV t (Jx t.mask (th k) M)) (h2: ∀m,m<M->rV t (Jx t.mask (th k) m)) {Q:SetFound->NH->Prop}
 (hyes: ∀(i:Nat) (c:Addr),xs[i]? =some (k,c)->Q (.there (if adding then none else some i)) s)
 (hno:k∉xs.map (·.1)-> ∀(d:Option Nat),Ll t (th k) M d->Q (.free (d.getD (Jx t.mask (th k) M)) d.isSome) s):
 ∀(fuel m:Nat) (st:Option Pb) (d:Option Nat),M<m+fuel->m<=M->Ll t (th k) M d->st.getD (t.probeStart (th k))=dU t.mask m (tJ t.mask (th k) d)->
  (∀(i:Nat) (c:Addr) (j:Nat),xs[i]? =some (k,c)->t.place[i]? =some j-> ∃m0,m<=m0/\m0<M/\Jx t.mask (th k) m0=j)->
  N1 (model prog w) A (X3 a (.ref b) (th k) adding fuel st) Q E s
 |0,m,st,d,q1,q2,_,_,_=>absurd q1 (by omega)
 |fuel+1,m,st,d,q1,q2,hd,hst,hin=>by
  have T:=S.T;have kiu:(KI prog w).room A:=hu;have hsz: ∀i:Nat,(∃j,t.place[i]? =some j)↔ ∃x,xs[i]? =some x:=λi=>by
   have e1:=T.sz;unfold vX at e1;rw[NK] at e1;constructor
   ·rintro⟨j,hj⟩;have:=(Ph.mp hj).1;exact⟨_,NL (show i<xs.length by omega)⟩
   ·rintro⟨x,hx⟩;have:=(NY.mp hx).1;exact⟨_,Ol (show i<t.place.size by omega)⟩
  unfold X3;refine NE (Pk ho S.hd S.fits ?_);dsimp only;rw[T.noway];simp only[NX,if_false];rw[hst];unfold SetTable.probe;obtain⟨r,hr,hc⟩:=qy T (MO es) h1 h2 (10*QB t.mask) m d (by unfold QB;omega) q2 hd;generalize hP:TB t _ (th k) _ _=P;obtain rfl:P=some r:=hP.symm.trans hr;dsimp only;have hat: ∀(i:Nat) (x:List Int×Addr),xs[i]? =some x->MO es i=th x.1:=λi x hx=>by
   unfold MO;rw[S.at_,hx];rfl
  rcases hc with⟨d',rfl,dd,nc⟩|⟨c,i,d',a1,a2,a3,a4,rfl,dd,nc⟩
  ·have nk:k∉xs.map (·.1):=λw=>by
    obtain⟨x,hx,rfl⟩:=N5.mp w;obtain⟨i,hi⟩:=OD.mp hx;obtain⟨j,hj⟩:=(hsz i).mpr ⟨x,hi⟩;obtain⟨m0,g1,g2,g3⟩:=hin i x.2 j hi hj;exact nc m0 g1 g2 i (by rw[g3];exact hj) (hat i x hi)
   have:=hno nk d' dd;dsimp only;cases d' with
   |none=>exact NJ this
   |some z=>
    dsimp only;have e:(adding&&t.slot z !=jaV)=false:=by
     rw[qK T (dd z rfl).1];simp
    rw[e];simp only[NX,if_false];exact NJ this
  ·obtain⟨x,hx⟩:=(hsz i).mp ⟨_,a3⟩;have ex:es[i]? =some (th x.1,.ref x.2):=by rw[S.at_,hx];rfl
   have hxm:=OF hx;have hxk:=hE x hxm;dsimp only;refine BF ?_ (tS hk (λv hv=>?_) ⟨rfl,rfl⟩)
   ·rw[ex];dsimp only;refine NE (O5 ((KI prog w).eqBool (x:=x.1) (y:=k) kiu hxk hk ?_));refine NE (Pk ho S.hd S.fits ?_);dsimp only;have sm:t.sameMemory t.moves t.mask=some true:=by unfold SetTable.sameMemory;rw[if_pos (beq_self_eq_true _)]
    by_cases ek:x.1=k
    ·rw[decide_eq_true ek];have hy:=hyes i x.2 (by rw[hx,<-ek]);cases adding with
     |true=>simp only[Bool.and_self,if_true];exact NJ hy
     |false=>
      simp only[PP,NX,if_false];rw[sm];dsimp only;rw[if_pos rfl,oo T a3];dsimp only;rw[ex];dsimp only;refine NE (UO ?_);simp only[if_true];refine NE (NJ ?_);dsimp only;exact NJ hy
    ·rw[decide_eq_false ek,Bool.and_false];simp only[NX,if_false];rw[sm];dsimp only;rw[if_pos rfl,oo T a3];dsimp only;rw[ex];dsimp only;refine NE (UO ?_);simp only[if_true];refine NE (NJ ?_);dsimp only;refine oW ho S hE hu hk adding hM h1 h2 hyes hno fuel (c+1) _ d' (by omega) (by omega) dd rfl λi' c' j' hi' hj'=>?_
     obtain⟨m0,g1,g2,g3⟩:=hin i' c' j' hi' hj';refine⟨m0,?_,g2,g3⟩;refine Po λw=>?_
     by_cases e:m0=c
     ·subst e;have:=T.sp.inj a3 (by rw[g3];exact hj');subst this;rw[hx] at hi';cases hi';exact ek rfl
     ·exact nc m0 g1 (by omega) i' (by rw[g3];exact hj') (hat i' _ hi')
   ·obtain⟨e,he,rfl⟩:=N5.mp hv;have he:e∈es:=(Array.mem_filter.mp (QP.mp he)).1;have he:e∈xs.map F4:=by rw[<-S.he];exact QP.mpr he
    obtain⟨y,hy,rfl⟩:=N5.mp he;exact⟨y.1,y.2,rfl,hE y hy⟩
end
theorem Ih(mask:Nat)(p:Pb)(h:p.j+p.more<=mask):(zM mask p).j+(zM mask p).more<=mask:=by
 unfold zM;split
 ·dsimp only;omega
 ·have hi:(RG mask p.i p.perturb).1<=mask:=Rh.mp (P4 _ (by omega));have:=oG hi;dsimp only;omega
theorem LK(mask:Nat)(h:Int)(m:Nat):Jx mask h m<=mask:=by
 have: ∀m,(dU mask m (tJ mask h none)).j+(dU mask m (tJ mask h none)).more<=mask:=λm=>by
  induction m with
  |zero=>
   have hi:ON h % (mask+1)<=mask:=Rh.mp (P4 _ (by omega));have:=oG hi;show ON h % (mask+1)+(OQ mask (ON h % (mask+1)) -ON h % (mask+1))<=mask;omega
  |succ m ih=>rw[iP];exact Ih mask _ ih
 have:=this m;unfold Jx;omega
structure SetOk(w:OT)(o:Obj)(es:Array (Int×NG))(ep:Nat)(t:PN)(xs:nq):Prop extends SetAt w o es ep t xs where
 f5:t.fill*5<t.mask*3
section
variable {prog:OI}{w:OT}{A:OL}{E:NG->NH->Prop}{s:NH}{a b:Addr}{o:Obj}{es:Array (Int×NG)}{ep:Nat}{t:PN}{xs:nq}{k:List Int}
theorem qg(ho:s.heap.get? a=some o)(S:SetAt w o es ep t xs)(hE:FR prog w s.heap xs)(hu:A.units<PY)(hk:(KI prog w).is s.heap k b)(adding:Bool){Q:SetFound->NH->Prop}
 (hyes: ∀(i:Nat) (c:Addr),xs[i]? =some (k,c)->Q (.there (if adding then none else some i)) s)
 (hno:k∉xs.map (·.1)-> ∀(j:Nat) (wd:Bool),j<=t.mask->(wd=true->j∈t.dummies.toList)->(wd=false-> ¬rV t j)->(∃m,Jx t.mask (th k) m=j/\ ∀m',m'<m->rV t (Jx t.mask (th k) m'))->Q (.free j wd) s):
 N1 (model prog w) A (setSearch a (.ref b) (th k) adding) Q E s:=by
 obtain⟨M,hM,h1,h2⟩:=S.T.first (th k);have mk:=S.T.mask;unfold setSearch;refine oW ho S hE hu hk adding hM h1 h2 hyes (λnk d dd=>?_) 100000 0 none none (by omega) (by omega) (λx hx=>by cases hx) rfl λi c j hi hj=>?_
 ·cases d with
  |none=>exact hno nk _ _ (LK _ _ _) (λw=>by cases w) (λ_=>h1) ⟨M,rfl,h2⟩
  |some z=>
   obtain⟨z1,m,z2,z3⟩:=dd z rfl;exact hno nk z true (S.T.ld z z1) (λ_=>z1) (λw=>by cases w) ⟨m,z3,λm' hm=>h2 m' (by omega)⟩
 ·obtain⟨m0,e,q⟩:=S.T.rc (th k,j) (OD.mpr ⟨i,Qd.mpr ⟨by unfold vX;rw[OH,hi];rfl,by rw[Ot];exact hj⟩⟩);refine⟨m0,by omega,?_,e⟩;have ju:rV t j:=.inl (OF (by rw[Ot];exact hj));rcases QO m0 M with c|c|c
  ·exact c
  ·subst c;rw[e] at h1;exact absurd ju h1
  ·exact absurd (q M c) h1
theorem qw(b:Addr)(es:Array (Int×NG)):byScan (.ref b) es=false:=rfl
theorem wL(ho:s.heap.get? a=some o)(S:SetAt w o es ep t xs)(hE:FR prog w s.heap xs)(hu:A.units<PY)(hk:(KI prog w).is s.heap k b){Q:Option Nat->NH->Prop}
 (hyes: ∀(i:Nat) (c:Addr),xs[i]? =some (k,c)->Q (some i) s) (hno:k∉xs.map (·.1)->Q none s):N1 (model prog w) A (setFind a (.ref b) (th k)) Q E s:=by
 unfold setFind setFindIn;refine NE (Pk ho S.hd S.fits ?_);dsimp only;rw[qw];simp only[NX,if_false];refine NE (qg ho S hE hu hk false (λi c hi=>?_) λnk j wd _ _ _ _=>?_)
 ·exact NJ (hyes i c hi)
 ·exact NJ (hno nk)
theorem CA {k:List Int}(hk:(KI prog w).is s.heap k b){Q:Bool->NH->Prop}(h:Q true s):N1 (model prog w) A (WL 8 (.ref b)) Q E s:=by
 have hT:=V2 (s:=s) hk;obtain⟨o,items,n,ho,hc,hd,hi⟩:=hk;unfold WL;refine NE (SU hT F.slot_tuple_hash.lookup ?_);refine NE (Tk ho hd ?_);dsimp only;refine NE ?_
 show N1 _ _ (forIn items _ _) _ _ _;rw[<-VQ];have hall: ∀v∈items.toList,∃(i:Int) (tk:Tok),v=.int i tk:=by
  intro v hv;clear ho hd hT;generalize items.toList=l at hi hv
  induction hi with
  |nil=>cases hv
  | @cons k v' ks vs h1 _ ih=>
    rcases Oc.mp hv with rfl|hv
    ·obtain⟨tk,rfl⟩:=V4 h1;exact⟨_,_,rfl⟩
    ·exact ih hv
 refine SA _ (λrest r s'=>r.1=none/\s'=s/\ ∀v∈rest,∃(i:Int) (tk:Tok),v=.int i tk) _ ?_ ?_ _ _ ⟨rfl,rfl,hall⟩
 ·rintro v rest r s' ⟨hr,rfl,hall⟩;obtain⟨i,tk,rfl⟩:=hall v Oe;have:WL 7 (.int i tk)=pure true:=rfl;rw[this];refine NE (NJ ?_);simp only[Qh,NX,if_false];exact NJ ⟨rfl,rfl,λu hu'=>hall u (N3 _ hu')⟩
 ·rintro⟨r1,r2⟩ s' ⟨hr,rfl,_⟩;simp only at hr;subst hr;exact NJ h
theorem A0(S:SetAt w o es ep t xs):(es.map (·.1)).toList=vX xs:=by
 rw[Array.toList_map,S.he,N6];rfl
def Ba(xs:nq)(ix:List Nat):nq:=ix.map λi=>xs.getD i ([],0)
theorem sM {xs:nq}{ix:List Nat}(p:ix.Perm (ND xs.length)):(Ba xs ix).Perm xs:=by
 have e:(ND xs.length).map (λi=>xs.getD i ([],0))=xs:=by
  refine SB (by simp) λi h1 h2=>?_
  simp[OJ,h2]
 have:=p.map λi=>xs.getD i ([],0)
 rw[e] at this;exact this
theorem A8(S:SetAt w o es ep t xs){wanted:Nat}(hw:wanted<=4095)(hl:xs.length*5<wanted*3): ∃(place order:Array Nat) (mv:Nat),t.relaid (es.map (·.1)) wanted=some (⟨Py wanted-1,place, #[],t.finger,t.led,mv,t.plain⟩,order)/\
 order.toList.Perm (ND xs.length)/\(∀(o':Obj) (ep':Nat),o'.ExactSet->o'.data=.set (order.filterMap (es[·]?)) ep' ⟨Py wanted-1,place, #[],t.finger,t.led,mv,t.plain⟩->
  SetOk w o' (order.filterMap (es[·]?)) ep' ⟨Py wanted-1,place, #[],t.finger,t.led,mv,t.plain⟩ (Ba xs order.toList))/\(order.filterMap (es[·]?)).size=es.size:=by
 obtain⟨q,h3,h12,e,hlt⟩:=mQ hw;have sz:(es.map (·.1)).size=xs.length:=by rw[Array.size_map,S.size]
 have hk:Py wanted-1+1=2^q:=by rw[e];omega
 obtain⟨place,order,g1,g2,g3⟩:=GU h3 h12 hk t.finger (t.movedTo (Py wanted-1)) t.led t.plain (es.map (·.1)) (by rw[sz,e];omega);rw[sz] at g2;have lt: ∀i∈order.toList,i<xs.length:=λi hi=>NF.mp (g2.mem_iff.mp hi)
 have el:(order.filterMap (es[·]?)).toList=(Ba xs order.toList).map F4:=by
  rw[Array.toList_filterMap];unfold Ba;rw[N6];have key: ∀l:List Nat,(∀i∈l,i<xs.length)->l.filterMap (λi=>es[i]?)=l.map (F4∘λi=>xs.getD i ([],0)):=by
   intro l
   induction l with
   |nil=>intro _;rfl
   |cons i l ih=>
    intro hl;have h1:=hl i Oe;have e1:es[i]? =some (F4 (xs.getD i ([],0))):=by
     rw[S.at_,NL h1];simp[OJ,h1]
    rw[Q0,e1,NS,ih λj hj=>hl j (N3 _ hj)];rfl
  exact key _ lt
 have et:vX (Ba xs order.toList)=order.toList.map λk=>(es.map (·.1)).toList.getD k 0:=by
  unfold vX Ba;rw[N6];refine Oq λi hi=>?_
  have:=lt i hi;rw[A0 S];show th (xs.getD i ([],0)).1=(vX xs).getD i 0;unfold vX;simp[OJ,this]
 have pp:=sM g2;refine⟨place,order,_,g1,g2,λo' ep' hex hd=>?_,?_⟩
 ·refine⟨⟨hex,hd,el,by rw[et];exact g3,S.led,S.pl,?_⟩,?_⟩
  ·exact((pp.map (·.1)).nodup_iff).mpr S.nd
  ·have z:=g3.sz;rw[NK,g2.length_eq,Pc] at z;show(place.size+0)*5<(Py wanted-1)*3;have z:place.size=xs.length:=z;rw[z,e];omega
 ·rw[<-N4,el,NK,pp.length_eq,S.size]
theorem E3(ho:s.heap.get? a=some o)(S:SetAt w o es ep t xs){wanted:Nat}(hw:wanted<=4095)(hl:xs.length*5<wanted*3){Q:Unit->NH->Prop}
 (h: ∀h' o' es' ep' t' xs',Pd a s.heap h'->h'.get? a=some o'->SetOk w o' es' ep' t' xs'->xs'.Perm xs->Q () {s with heap:=h'}):N1 (model prog w) A (setRelay a wanted) Q E s:=by
 obtain⟨place,order,mv,g1,g2,g3,g4⟩:=A8 S hw hl;obtain⟨q,h3,h12,e,hlt⟩:=mQ hw
 have e0:setRelay a wanted=(do
  let(es,_,t) <-setState a
  if Py wanted>Oi then RW "set:memory"
  let(es,t) <-(do
   let some (t,order):=t.relaid (es.map (·.1)) wanted|RW "internal:set-table-without-room"
   let es':=order.filterMap (es[·]?)
   if es'.size !=es.size then RW "internal:set-table-lost-an-element"
   pure (es',t):Sem (Array (Int×NG)×PN))
  storeSet a es t):=rfl
 rw[e0];refine NE (Pk ho S.hd S.fits ?_);dsimp only;have p12:2^q<=2^12:=Rw (by omega) h12
 rw[if_neg (by rw[e,PB];have:(2:Nat)^12=4096:=by decide
               omega),g1]
 dsimp only;rw[g4,bne_self_eq_false];simp only[NX,if_false];refine NE (NJ ?_);dsimp only;have sl:(order.filterMap (es[·]?)).size<=sizeLine:=by
  rw[g4,S.size,PB];omega
 refine TD ho S.hd ?_ sl;have hg:=Pg (Us (order.filterMap (es[·]?)) ⟨Py wanted-1,place, #[],t.finger,t.led,mv,t.plain⟩) ho (by rw[Ub _ _ S.hd];rfl);rw[Ub _ _ S.hd] at hg;exact h _ _ _ _ _ _ (PK s.heap a _) hg (g3 _ _ S.ex rfl) (sM g2)
end
theorem EO {t:PN}{hs:List Int}(T:TOk t hs){j:Nat}(wd:Bool)(h1:wd=true->j∈t.dummies.toList)(h2:wd=false-> ¬rV t j):(t.put j).1.fill=if wd then t.fill else t.fill+1:=by
 have e1:(OG t.place (Os t.place j) j).size=t.place.size+1:=by
  have:=congrArg Rx (Pu t.place (Os t.place j) j);rw[N4] at this;rw[this];have b:=(KZ T.sp j).le;simp;omega
 show(OG t.place (Os t.place j) j).size+(if S8 t.dummies j=true then OO t.dummies (Os t.dummies j) else t.dummies).size=_;rw[e1];unfold VA;cases wd with
 |true=>
  have hm:=h1 rfl;obtain⟨i,hi⟩:=OD.mp hm;rw[Ot] at hi;have lt:=(Ph.mp hi).1;have e2:(OO t.dummies (Os t.dummies j)).size=t.dummies.size-1:=by
   rw[<-N4,fF,PX,tR T.sd hi,if_pos (by rw[N4];exact lt),N4]
  rw[if_pos ((ko T.sd j).mpr hm),if_pos rfl,e2];omega
 |false=>
  have hn:=h2 rfl;rw[if_neg λw=>hn (.inr ((ko T.sd j).mp w)),if_neg (by decide)];omega
theorem qG {α β:Type}(f:α->β): ∀(l:List α) (i:Nat),(l.map f).eraseIdx i=(l.eraseIdx i).map f
 | [],_=>rfl
 |_::_,0=>rfl
 |a::l,i+1=>by rw[NS,Uc,Uc,NS,qG f l i]
section
variable {prog:OI}{w:OT}{A:OL}{E:NG->NH->Prop}{s:NH}{a b:Addr}{o:Obj}{es:Array (Int×NG)}{ep:Nat}{t:PN}{xs:nq}{k:List Int}
theorem D8 {α:Type}(l:List α)(p:Nat)(x:α):(fP l p x).Perm (l++[x]):=by
 unfold fP;refine Ws.trans ?_
 rw[Rm];exact(List.perm_append_singleton x l).symm
theorem Fy(ho:s.heap.get? a=some o)(S:SetOk w o es ep t xs)(hE:FR prog w s.heap xs)(hu:A.units<PY)(hk:(KI prog w).is s.heap k b)(hlen:xs.length<=1000){Q:Bool->NH->Prop}
 (hyes:k∈xs.map (·.1)->Q false s)
 (hno:k∉xs.map (·.1)-> ∀h' o' es' ep' t' xs',Pd a s.heap h'->h'.get? a=some o'->SetOk w o' es' ep' t' xs'->xs'.Perm (xs++[(k,b)])->Q true {s with heap:=h'}):
 N1 (model prog w) A (setAddHashed a (.ref b) (th k)) Q E s:=by
 have S':=S.toSetAt;unfold setAddHashed setAddHashedIn;refine O5 (NE (Pk ho S.hd S'.fits ?_));dsimp only;rw[qw];simp only[NX,if_false];refine NE (qg ho S' hE hu hk true (λi c hi=>?_) λnk j wd hj hd1 hd2 hrc=>?_)
 ·exact NJ (hyes (N5.mpr ⟨(k,c),OF hi,rfl⟩))
 ·dsimp only;refine NE (Pk ho S.hd S'.fits ?_);dsimp only;have T:=S.T;have nj:j∉t.place.toList:=λw=>by
   cases wd with
   |true=>exact T.dj j (hd1 rfl) w
   |false=>exact hd2 rfl (.inl w)
  have fp:=EO T wd hd1 hd2;have f5:=S.f5;obtain⟨q,q3,q12,qe⟩:=T.pw;have p3:2^3<=2^q:=Rw (by omega) q3;have fl:(t.put j).1.fill<=t.mask:=by rw[fp];split<;>omega
  have T2:=T.put hj nj hrc fl;have pl:(t.put j).1.plain=true:=S.pl;have hsz:=S'.size;have el:(OG es (t.put j).2 (th k,PM b)).toList=(fP xs (t.put j).2 (k,b)).map F4:=by
   rw[Pu,S.he];unfold fP;rw[O3,NS,VB,VC];rfl
  have et:vX (fP xs (t.put j).2 (k,b))=fP (vX xs) (t.put j).2 (th k):=by
   unfold vX fP;rw[O3,NS,VB,VC]
  have pp:=D8 xs (t.put j).2 (k,b);have nd2:((fP xs (t.put j).2 (k,b)).map (·.1)).Nodup:=by
   refine((pp.map (·.1)).nodup_iff).mpr ?_
   rw[O3,Qn];exact⟨S.nd,by simp,λx hx y hy=>by
    simp only[NS,Qu,Om] at hy;subst hy;exact λe=>nk (e▸hx)⟩
  have sz2:(OG es (t.put j).2 (th k,PM b)).size=xs.length+1:=by
   rw[<-N4,el,NK,pp.length_eq];simp
  have S2: ∀(o':Obj) (ep':Nat),o'.ExactSet->o'.data=.set (OG es (t.put j).2 (th k,PM b)) ep' (t.put j).1->SetAt w o' (OG es (t.put j).2 (th k,PM b)) ep' (t.put j).1 (fP xs (t.put j).2 (k,b)):=
   λo' ep' hex hd=>⟨hex,hd,el,by rw[et];exact T2,S.led,pl,nd2⟩
  have hg:=Pg (Us (OG es (t.put j).2 (th k,PM b)) (t.put j).1) ho (by rw[Ub _ _ S.hd];rfl);rw[Ub _ _ S.hd] at hg;rw[pl];simp only[if_true];refine NE (CA hk ?_);simp only[if_true];refine NE (TD ho S.hd ?_ (by rw[sz2,PB];omega));have hb:=PK s.heap a (Us (OG es (t.put j).2 (th k,PM b)) (t.put j).1);split
  ·rename_i hc
   rw[NQ] at hc;refine NE (E3 (s:={s with heap:=s.heap.update a (Us (OG es (t.put j).2 (th k,PM b)) (t.put j).1)}) hg (S2 _ _ S.ex rfl) ?_ ?_ λh' o' es' ep' t' xs' g1 g2 g3 g4=>?_)
   ·rw[hsz];unfold Xf;split<;>omega
   ·rw[hsz,pp.length_eq];unfold Xf;rw[Of,O7];split<;>omega
   ·exact NJ (hno nk h' o' es' ep' t' xs' (hb.trans g1) g2 g3 (g4.trans pp))
  ·rename_i hc
   refine NJ (hno nk _ _ _ _ _ _ hb hg ⟨S2 _ _ S.ex rfl,?_⟩ pp);show(t.put j).1.fill*5<t.mask*3;rw[fp];cases wd with
   |true=>exact f5
   |false=>
    have hc: ¬(t.put j).1.tooFull=true:=λw=>hc (by rw[w];rfl)
    unfold SetTable.tooFull at hc;rw[decide_eq_true_eq,fp] at hc;have:(t.put j).1.mask=t.mask:=rfl;rw[this] at hc;simp only[NX,if_false] at hc⊢;omega
theorem vD(ho:s.heap.get? a=some o)(S:SetOk w o es ep t xs)(hE:FR prog w s.heap xs)(hu:A.units<PY)(hk:(KI prog w).is s.heap k b)(hlen:xs.length<=1000){Q:Bool->NH->Prop}
 (hno:k∉xs.map (·.1)->Q false s)
 (hyes:k∈xs.map (·.1)-> ∀h' o' es' ep' t' xs',Pd a s.heap h'->h'.get? a=some o'->SetOk w o' es' ep' t' xs'->(∃i c,xs[i]? =some (k,c)/\xs'=xs.eraseIdx i)->Q true {s with heap:=h'}):
 N1 (model prog w) A (Wt a (.ref b) (th k)) Q E s:=by
 have S':=S.toSetAt;unfold Wt;refine NE (wL ho S' hE hu hk (λi c hi=>?_) λnk=>?_)
 ·dsimp only;refine NE (Pk ho S.hd S'.fits ?_);dsimp only;have T:=S.T;have zz:=T.sz;unfold vX at zz;rw[NK] at zz;have il:=(NY.mp hi).1;have hp:t.place[i]? =some (t.place[i]'(by omega)):=Ol (by omega);have T2:=T.drop hp;have el:(OO es i).toList=(xs.eraseIdx i).map F4:=by
   rw[fF,S.he,qG]
  have et:vX (xs.eraseIdx i)=(vX xs).eraseIdx i:=by unfold vX;rw[qG]
  have sz2:(OO es i).size<=1000:=by
   rw[<-N4,el,NK];exact OE (List.length_eraseIdx_le _ _) hlen
  have hg:=Pg (Us (OO es i) (t.drop i)) ho (by rw[Ub _ _ S.hd];rfl);rw[Ub _ _ S.hd] at hg;have ed:t.drop i={t with place:=OO t.place i,dummies:=OG t.dummies (Os t.dummies (t.place[i]'(by omega))) (t.place[i]'(by omega))}:=by
   unfold XZ;rw[hp]
  refine NE (TD ho S.hd ?_ (by rw[PB];omega));refine NE (wpAny_point ?_);refine NJ (hyes (N5.mpr ⟨(k,c),OF hi,rfl⟩) _ _ _ _ _ (xs.eraseIdx i) (PK s.heap a _) hg ⟨⟨S.ex,rfl,el,by rw[et];exact T2,by rw[ed];exact S.led,by rw[ed];exact S.pl,?_⟩,?_⟩ ⟨i,c,hi,rfl⟩)
  ·rw[<-qG];exact RS (Rn _ _) S.nd
  ·have f5:=S.f5;have ff:(t.drop i).fill=t.fill:=by
    rw[ed];show(OO t.place i).size+(OG t.dummies _ _).size=t.place.size+t.dummies.size;rw[<-N4,fF,PX,<-N4 (xs:=OG _ _ _),Pu,if_pos (by rw[N4];omega)];have b:=(KZ T.sd (t.place[i]'(by omega))).le;simp;omega
   rw[ff,ed];exact f5
 ·exact NJ (hno nk)
end
abbrev kZ:=Sum Int Str
def Hy:kZ->NG->Bool
 | .inl k,v=>Value.isInt k v
 | .inr x,v=>Value.isStrOf x v
def MY(w:OT):kZ->Int
 | .inl k=>hashInt k
 | .inr x=>hashStr w x
theorem cx: ∀ {k:kZ} {v:NG},Hy k v=true->(∃i t,k=TF i/\v=Tf i t)\/(∃x t,k=Vj x/\v=Value.str x t)
 | .inl i,v,h=>by
   obtain⟨t,e⟩:=V4 (k:=i) (v:=v) h;exact .inl ⟨i,t,rfl,e⟩
 | .inr x,v,h=>by
   obtain⟨t,e⟩:=Value.isStrOf_shape (x:=x) (v:=v) h;exact .inr ⟨x,t,rfl,e⟩
theorem Jp(a b:Int):decide ((TF a:kZ)=TF b)=(a==b):=by
 by_cases e:a=b
 ·subst e;simp
 ·have h: ¬(TF a:kZ)=TF b:=λq=>e (Sum.inl.inj q)
  rw[decide_eq_false h];exact(beq_eq_false_iff_ne.mpr e).symm
theorem Jz(a b:Str):decide ((Vj a:kZ)=Vj b)=decide (a=b):=by
 by_cases e:a=b
 ·subst e;simp
 ·have h: ¬(Vj a:kZ)=Vj b:=λq=>e (Sum.inr.inj q)
  rw[decide_eq_false h,decide_eq_false e]
theorem IL(a:Int)(b:Str):decide ((TF a:kZ)=Vj b)=false:=decide_eq_false (λq=>nomatch q)
theorem IZ(a:Str)(b:Int):decide ((Vj a:kZ)=TF b)=false:=decide_eq_false (λq=>nomatch q)
def uY(prog:OI)(w:OT):PySem.KeyKind prog w kZ where
 is:=Hy
 hash:=MY w
 inj:=λv a b ha hb=>by
  rcases cx ha with⟨i,t,rfl,rfl⟩|⟨x,t,rfl,rfl⟩
  ·rcases cx hb with⟨j,u,rfl,e⟩|⟨y,u,rfl,e⟩
   ·injection e with e1 _;rw[e1]
   ·exact nomatch e
  ·rcases cx hb with⟨j,u,rfl,e⟩|⟨y,u,rfl,e⟩
   ·exact nomatch e
   ·injection e with e1 _;rw[e1]
 byValue:=λk v h=>by
  rcases cx h with⟨i,t,rfl,rfl⟩|⟨x,t,rfl,rfl⟩<;>rfl
 pyHash:=λhv h=>by
  rcases cx hv with⟨i,t,rfl,rfl⟩|⟨x,t,rfl,rfl⟩
  ·exact wpAny_pyHash_int h
  ·exact wpAny_pyHash_str h
 eqBool:=λhu hv h=>by
  rcases cx hu with⟨i,t,rfl,rfl⟩|⟨x,t,rfl,rfl⟩
  ·rcases cx hv with⟨j,u,rfl,rfl⟩|⟨y,u,rfl,rfl⟩
   ·rw[Jp] at h;exact Wu h
   ·rw[IL] at h;exact VR i t y u _ _ _ _ h
  ·rcases cx hv with⟨j,u,rfl,rfl⟩|⟨y,u,rfl,rfl⟩
   ·rw[IZ] at h;exact VS x t j u _ _ _ _ h
   ·rw[Jz] at h;exact wpAny_eqBool_str h
 «strs»:=λk x t v h=>by
  rcases cx h with⟨i,u,rfl,e⟩|⟨y,u,rfl,e⟩
  ·exact nomatch e
  ·injection e with e1 _
   subst e1;cases v<;>rfl
inductive V where
 |non|bl (b:Bool)|int (i:Int)|str (x:Str)|byt (b:Array UInt8)|flt (b:UInt64)|ref (a:Addr)|ty (n:String)
 deriving DecidableEq
def RelV:V->NG->Prop
 | .non,u=>u=OP
 | .bl b,u=>u=jbK b
 | .int i,u=> ∃t,u=Tf i t
 | .str x,u=> ∃t,u=Value.str x t
 | .byt b,u=> ∃t,u=Value.bytes b t
 | .flt b,u=> ∃t,u=Value.float b t
 | .ref a,u=>u=PM a
 | .ty n,u=>u=jbL n
abbrev Vals:List V->List NG->Prop:=Paired RelV
theorem Vals.length {xs:List V}{us:List NG}(r:Vals xs us):xs.length=us.length:=RH r
theorem Vals.get: ∀ {xs:List V} {us:List NG} {i:Nat} {x:V},Vals xs us->xs[i]? =some x-> ∃u,us[i]? =some u/\RelV x u
 |_,_,_,_,.nil,e=>by simp at e
 |_,_,0,_,.cons r _,e=>by simp at e;subst e;exact⟨_,rfl,r⟩
 |_,_,i+1,x,.cons _ t,e=>by
  obtain⟨u,h1,h2⟩:=Vals.get (i:=i) (x:=x) t (by simpa using e);exact⟨u,by simpa using h1,h2⟩
theorem Vals.set {x:V}{u:NG}(r:RelV x u): ∀ {xs:List V} {us:List NG} (i:Nat),Vals xs us->Vals (xs.set i x) (us.set i u)
 |_,_,_,.nil=>.nil
 |_,_,0,.cons _ t=>.cons r t
 |_,_,i+1,.cons q t=>.cons q (Vals.set r i t)
theorem Vals.append: ∀ {xs ys:List V} {us ws:List NG},Vals xs us->Vals ys ws->Vals (xs++ys) (us++ws)
 |_,_,_,_,.nil,s=>s
 |_,_,_,_,.cons r t,s=>.cons r (Vals.append t s)
theorem Vals.take: ∀ {xs:List V} {us:List NG} (n:Nat),Vals xs us->Vals (xs.take n) (us.take n)
 |_,_,0,_=>.nil
 |_,_,_+1,.nil=>.nil
 |_,_,n+1,.cons r t=>.cons r (Vals.take n t)
theorem Vals.drop: ∀ {xs:List V} {us:List NG} (n:Nat),Vals xs us->Vals (xs.drop n) (us.drop n)
 |_,_,0,r=>r
 |_,_,_+1,.nil=>.nil
 |_,_,n+1,.cons _ t=>Vals.drop n t
def LD:Option V->Option NG->Prop
 |some v,some u=>RelV v u
 |none,none=>True
 |_,_=>False
def KV {κ:Type}:List (κ×V)->List (κ×NG)->Prop:=Paired λ(p:κ×V) (q:κ×NG)=>p.1=q.1/\RelV p.2 q.2
def kV:kZ->V
 | .inl i=>.int i
 | .inr x=>.str x
inductive HO where
 |lst (xs:List V)
 |tup (xs:List V)
 |dK (kvs:List (kZ×V))|dT (kvs:List (List kZ×V))
 |set (S:Int->Bool) (n:Nat)
 |tst (xs:List (List Int×Addr))
 |ins (C dx:Addr) (fs:List (Str×V))
 |own (x:Addr)
 |xd (fs:List (Str×V))
 |met (f x:Addr)
 |rng (lo hi:Int)
 |frz (o:Obj) (u:HO)
 |nst (p:Addr) (u:HO)
 |tbl (ps:Array NG)
 |ext (φ:Heap->Prop)
abbrev Hp:=Addr->Option HO
def cm(H:Hp)(a:Addr)(o:HO):Hp:=λb=>if b=a then some o else H b
theorem ba {H:Hp}{a:Addr}{o:HO}:cm H a o a=some o:=by unfold cm;rw[if_pos rfl]
theorem aR {H:Hp}{a b:Addr}{o:HO}(h:b≠a):cm H a o b=H b:=by unfold cm;rw[if_neg h]
theorem bG {H:Hp}{a b:Addr}{o:HO}(h:H a=some o)(h':H b=none):a≠b:=by
 intro e;subst e;rw[h] at h';cases h'
section
variable(P:OI)(w:OT)
def ObjOk(H:Hp)(h:Heap)(a:Addr):HO->Prop
 | .lst xs=>xs.length<=Oi/\ ∃(its:List NG) (n:Nat),Vals xs its/\h.get? a=some {cls:=.type "list",data:=.seq its.toArray n}
 | .tup xs=>xs.length<=Oi/\ ∃its:List NG,Vals xs its/\IsTup h a its.toArray/\ ∃o,h.get? a=some o/\o.dict=none
 | .dK kvs=>kvs.length<=Oi/\(a==Xg)=false/\ ∃vs,KV kvs vs/\h.DictOf (uY P w) a vs
 | .dT kvs=>kvs.length<=Oi/\(a==Xg)=false/\ ∃xs:List (List kZ×Addr×NG),
    Paired (λ(p:List kZ×V) (q:List kZ×Addr×NG)=>p.1=q.1/\H q.2.1=some (.tup (p.1.map kV))/\RelV p.2 q.2.2) kvs xs/\
    ∃o es ep,h.get? a=some o/\o.ExactDict/\o.data=.dict es ep/\es.toList=xs.map (entryOfKey (tupleKind (uY P w)))/\(xs.map (·.1)).Nodup
 | .set S n=>h.SetOf (intKind P w) a S n
 | .tst xs=> ∃o es ep t,h.get? a=some o/\SetOk w o es ep t xs
 | .ins C dx fs=>H dx=some (.own a)/\fs.length<=1000/\dx≠a/\h.get? a=some (W.instObj C dx)/\
    ∃mA,h.Ns1 dx mA/\(∀f,LD (fs.lookup f) (mA f))/\PySem.Within mA (fs.map (·.1))
 | .own _=> ∃o,h.get? a=some o
 | .xd fs=> ∃mA,h.Ns1 a mA/\ ∀f,LD (fs.lookup f) (mA f)
 | .rng lo hi=> ∃t u v,h.get? a=some {cls:=.type "range",data:=.fields #[.int lo t,.int hi u,.int 1 v]}
 | .frz o u=>h.get? a=some o/\ObjOk H h a u
 | .nst _ u=>ObjOk H h a u
 | .tbl ps=>h.get? a=some {cls:=.none,data:=.fields ps}
 | .met f x=>h.get? a=some (WM (.ref f) (.ref x))
 | .ext φ=>φ h/\(∃o,h.get? a=some o)/\ ∀h1 h2:Heap,φ h1->(∀o,h1.get? a=some o->h2.get? a=some o)->φ h2
def HOk(H:Hp)(h:Heap):Prop:= ∀a o,H a=some o->ObjOk P w H h a o
end
section
variable {P:OI}{w:OT}{H H':Hp}{h h':Heap}{a:Addr}{o:HO}
theorem ObjOk.lt(x:ObjOk P w H h a o):a<h.objs.size:=by
 induction o with
 |lst xs=>obtain⟨_,_,_,_,e⟩:=x;exact N0 e
 |tup xs=>obtain⟨_,_,_,p,_⟩:=x;exact p.lt
 |dK kvs=>obtain⟨_,_,_,_,o,_,_,e,_⟩:=x;exact N0 e
 |dT kvs=>obtain⟨_,_,_,_,o,_,_,e,_⟩:=x;exact N0 e
 |set S n=>obtain⟨o,_,_,_,e,_⟩:=x;exact N0 e
 |tst xs=>obtain⟨o,_,_,_,e,_⟩:=x;exact N0 e
 |ins C dx fs=>obtain⟨_,_,_,e,_⟩:=x;exact N0 e
 |own y=>obtain⟨_,e⟩:=x;exact N0 e
 |xd fs=>obtain⟨_,⟨_,_,_,e,_⟩,_⟩:=x;exact N0 e
 |rng lo hi=>obtain⟨_,_,_,e⟩:=x;exact N0 e
 |frz ob u ih=>obtain⟨e,_⟩:=x;exact N0 e
 |nst p u ih=>exact ih x
 |tbl ps=>exact N0 (show h.get? a=some _ from x)
 |met f y=>exact N0 (show h.get? a=some _ from x)
 |ext φ=>obtain⟨_,⟨_,e⟩,_⟩:=x;exact N0 e
theorem Paired.mapP {α β:Type}{F G:α->β->Prop}: ∀ {l₁:List α} {l₂:List β},Paired F l₁ l₂->(∀a b,F a b->G a b)->Paired G l₁ l₂
 |_,_,.nil,_=>.nil
 |_,_,.cons r t,f=>.cons (f _ _ r) (Paired.mapP t f)
theorem ObjOk.stay(x:ObjOk P w H h a o)(k: ∀b u,(b=a\/H b=some (.own a))->h.get? b=some u->h'.get? b=some u)
 (ho: ∀b,H b=some (.own a)->H' b=some (.own a)) (ht: ∀b xs,H b=some (.tup xs)->H' b=some (.tup xs)):ObjOk P w H' h' a o:=by
 induction o with
 |lst xs=>obtain⟨z,its,n,r,e⟩:=x;exact⟨z,its,n,r,k _ _ (.inl rfl) e⟩
 |tup xs=>obtain⟨z,its,r,⟨ob,e,c⟩,ob2,e2,c2⟩:=x;exact⟨z,its,r,⟨ob,k _ _ (.inl rfl) e,c⟩,ob2,k _ _ (.inl rfl) e2,c2⟩
 |dK kvs=>obtain⟨z,y,vs,r,ob,es,ep,e,c⟩:=x;exact⟨z,y,vs,r,ob,es,ep,k _ _ (.inl rfl) e,c⟩
 |dT kvs=>
  obtain⟨z,y,xs,r,ob,es,ep,e,c⟩:=x;exact⟨z,y,xs,Paired.mapP r λp q z=>⟨z.1,ht _ _ z.2.1,z.2.2⟩,ob,es,ep,k _ _ (.inl rfl) e,c⟩
 |set S n=>obtain⟨ob,es,ep,t,e,c⟩:=x;exact⟨ob,es,ep,t,k _ _ (.inl rfl) e,c⟩
 |tst xs=>obtain⟨ob,es,ep,t,e,c⟩:=x;exact⟨ob,es,ep,t,k _ _ (.inl rfl) e,c⟩
 |ins C dx fs=>
  obtain⟨d,z,ne,e,mA,⟨od,es,ep,e2,c⟩,r⟩:=x;exact⟨ho _ d,z,ne,k _ _ (.inl rfl) e,mA,⟨od,es,ep,k _ _ (.inr d) e2,c⟩,r⟩
 |own y=>obtain⟨ob,e⟩:=x;exact⟨ob,k _ _ (.inl rfl) e⟩
 |xd fs=>obtain⟨mA,⟨od,es,ep,e,c⟩,r⟩:=x;exact⟨mA,⟨od,es,ep,k _ _ (.inl rfl) e,c⟩,r⟩
 |rng lo hi=>obtain⟨t,u,v,e⟩:=x;exact⟨t,u,v,k _ _ (.inl rfl) e⟩
 |frz ob u ih=>obtain⟨e,q⟩:=x;exact⟨k _ _ (.inl rfl) e,ih q⟩
 |nst p u ih=>exact ih x
 |tbl ps=>
  have e:h.get? a=some {cls:=.none,data:=.fields ps}:=x;show h'.get? a=some {cls:=.none,data:=.fields ps};exact k a _ (.inl rfl) e
 |met f y=>
  have e:h.get? a=some (WM (.ref f) (.ref y)):=x;show h'.get? a=some (WM (.ref f) (.ref y));exact k a _ (.inl rfl) e
 |ext φ=>obtain⟨p,⟨o,e⟩,st⟩:=x;exact⟨st _ _ p λo q=>k _ _ (.inl rfl) q,⟨o,k _ _ (.inl rfl) e⟩,st⟩
theorem HOk.lt(x:HOk P w H h)(e:H a=some o):a<h.objs.size:=(x a o e).lt
theorem HOk.fresh(x:HOk P w H h)(e:h.objs.size<=a):H a=none:=by
 cases q:H a with
 |none=>rfl
 |some u=>exact absurd (NV (x.lt q) e) (QV _)
theorem HOk.kept(x:HOk P w H h)(k: ∀b u,h.get? b=some u->h'.get? b=some u):HOk P w H h':=λa o e=>
 (x a o e).stay (λb u _ q=>k b u q) (λ_ q=>q) λ_ _ q=>q
theorem HOk.laid(x:HOk P w H h)(k: ∀b u,h.get? b=some u->h'.get? b=some u)(hp:h.objs.size<=a)(new:ObjOk P w (cm H a o) h' a o):HOk P w (cm H a o) h':=λb u e=>by
 have hn:=x.fresh hp
 by_cases hb:b=a
 ·subst hb;rw[ba] at e;cases e;exact new
 ·rw[aR hb] at e;exact(x b u e).stay (λc v _ q=>k c v q) (λc q=>by rw[aR (bG q hn)];exact q) λc xs q=>by rw[aR (bG q hn)];exact q
end
def Rd(H:Hp)(a:Addr)(u:HO):Prop:=H a=some u\/ ∃o,H a=some (.frz o u)
theorem Rd.ok {P:OI}{w:OT}{H:Hp}{h:Heap}{a:Addr}{u:HO}(r:Rd H a u)(x:HOk P w H h):ObjOk P w H h a u:=by
 rcases r with r|⟨o,r⟩
 ·exact x a u r
 ·obtain⟨_,q⟩:=x a _ r;exact q
def LX:Option HO->Prop
 |some (.lst _)=>True
 |some (.dK _)=>True
 |some (.dT _)=>True
 |some (.set _ _)=>True
 |some (.tst _)=>True
 |some (.ins _ _ _)=>True
 |some (.ext _)=>True
 |some (.nst _ _)=>True
 |_=>False
section
variable {P:OI}{w:OT}{H:Hp}{h h':Heap}{x e:Addr}{o':HO}
theorem HOk.write(ok:HOk P w H h)(mu:LX (H x))(he:e=x\/H e=some (.own x))(k: ∀b u,b≠e->h.get? b=some u->h'.get? b=some u)(heo: ∃u,h'.get? e=some u)
 (new:ObjOk P w (cm H x o') h' x o'):HOk P w (cm H x o') h':=λb u q=>by
 have nown: ∀c y,H c=some (.own y)->c≠x:=λc y r z=>by subst z;rw[r] at mu;exact mu
 have ntup: ∀c xs,H c=some (.tup xs)->c≠x:=λc xs r z=>by subst z;rw[r] at mu;exact mu
 by_cases hb:b=x
 ·subst hb;rw[ba] at q;cases q;exact new
 ·rw[aR hb] at q
  by_cases hbe:b=e
  ·have q':H b=some (.own x):=by
    rcases he with z|z
    ·exact absurd (hbe.trans z) hb
    ·rw[hbe];exact z
   rw[q] at q';cases q';obtain⟨v,hv⟩:=heo;exact⟨v,by rw[hbe];exact hv⟩
  ·refine(ok b u q).stay (λc v hc r=>k c v ?_ r) (λc r=>by rw[aR (nown c b r)];exact r) λc xs r=>by rw[aR (ntup c xs r)];exact r
   rcases hc with rfl|hc
   ·exact hbe
   ·rintro rfl;rcases he with z|z
    ·exact nown c b hc z
    ·rw[hc] at z;cases z;exact hb rfl
end
structure Un(fs ex:List Addr)(H H':Hp)(h h':Heap):Prop where
 keep: ∀b o,h.get? b=some o->H b=none->b∉fs->b∉ex->h'.get? b=some o
 slot: ∀b o,h.get? b=some o->H b=none->b∈fs->b∉ex-> ∃sl,h'.get? b=some {o with slots:=sl}
 free: ∀b o,h.get? b=some o->H b=none->b∉ex->H' b=none
 there: ∀b o,h.get? b=some o->b∉ex-> ∃o',h'.get? b=some o'
 tups: ∀b xs,H b=some (.tup xs)->H' b=some (.tup xs)
 frzs: ∀b o u,H b=some (.frz o u)->H' b=some (.frz o u)
 tbls: ∀b ps,H b=some (.tbl ps)-> ∃more,H' b=some (.tbl (ps++more))
section
variable {fs fs' ex ex':List Addr}{H H1 H2:Hp}{h h1 h2 h':Heap}{a x e:Addr}{o:HO}
theorem Un.any(u:Un fs ex H H1 h h1){b:Addr}{ob:Obj}(q:h.get? b=some ob)(n:H b=none)(hx:b∉ex): ∃sl,h1.get? b=some {ob with slots:=sl}:=by
 by_cases hb:b∈fs
 ·exact u.slot b ob q n hb hx
 ·exact⟨ob.slots,u.keep b ob q n hb hx⟩
theorem Un.trans(a:Un fs ex H H1 h h1)(b:Un fs ex H1 H2 h1 h2):Un fs ex H H2 h h2 where
 keep:=λc ob q n hc hx=>b.keep c ob (a.keep c ob q n hc hx) (a.free c ob q n hx) hc hx
 slot:=λc ob q n hc hx=>by
  obtain⟨sl,e1⟩:=a.slot c ob q n hc hx;obtain⟨sl',e2⟩:=b.slot c _ e1 (a.free c ob q n hx) hc hx;exact⟨sl',e2⟩
 free:=λc ob q n hx=>by
  obtain⟨o',e1⟩:=a.there c ob q hx;exact b.free c o' e1 (a.free c ob q n hx) hx
 there:=λc ob q hx=>by
  obtain⟨o',e1⟩:=a.there c ob q hx;exact b.there c o' e1 hx
 tups:=λc xs q=>b.tups c xs (a.tups c xs q)
 frzs:=λc ob xs q=>b.frzs c ob xs (a.frzs c ob xs q)
 tbls:=λc ps q=>by
  obtain⟨m1,e1⟩:=a.tbls c ps q;obtain⟨m2,e2⟩:=b.tbls c _ e1;exact⟨m1++m2,by rw[e2,VT]⟩
theorem Un.kept(k: ∀b u,h.get? b=some u->h'.get? b=some u):Un fs ex H H h h':=
 ⟨λb ob q _ _ _=>k b ob q,λb ob q _ _ _=>⟨ob.slots,k b ob q⟩,λ_ _ _ n _=>n,λb ob q _=>⟨ob,k b ob q⟩,λ_ _ q=>q,λ_ _ _ q=>q,λ_ ps q=>⟨#[],by rw[q];simp⟩⟩
theorem Un.refl:Un fs ex H H h h:=Un.kept λ_ _ q=>q
theorem Un.laid(k: ∀b u,h.get? b=some u->h'.get? b=some u)(hp:h.objs.size<=a)(hn:H a=none):Un fs ex H (cm H a o) h h' where
 keep:=λb u q _ _ _=>k b u q
 slot:=λb u q _ _ _=>⟨u.slots,k b u q⟩
 free:=λb u q n _=>by rw[aR (Oz (NV (N0 q) hp))];exact n
 there:=λb u q _=>⟨u,k b u q⟩
 tups:=λb xs q=>by rw[aR (bG q hn)];exact q
 frzs:=λb u xs q=>by rw[aR (bG q hn)];exact q
 tbls:=λb ps q=>⟨#[],by rw[aR (bG q hn),q];simp⟩
theorem Un.write(mu:LX (H x))(he:e=x\/H e=some (.own x))(k: ∀b u,b≠e->h.get? b=some u->h'.get? b=some u)(heo: ∃u,h'.get? e=some u):Un fs ex H (cm H x o) h h':=by
 have hx: ∀b,H b=none->b≠x:=λb n z=>by subst z;rw[n] at mu;exact mu
 have hb: ∀b,H b=none->b≠e:=λb n z=>by
  subst z;rcases he with r|r
  ·exact hx b n r
  ·rw[n] at r;cases r
 have hm: ∀b u,H b=some u-> ¬LX (some u)->b≠x:=λb u q nm z=>by subst z;rw[q] at mu;exact nm mu
 refine⟨λb u q n _ _=>k b u (hb b n) q,λb u q n _ _=>⟨u.slots,k b u (hb b n) q⟩,λb u q n _=>by rw[aR (hx b n)];exact n,λb u q _=>?_,
  λb xs q=>by rw[aR (hm b _ q λz=>z)];exact q,λb u xs q=>by rw[aR (hm b _ q λz=>z)];exact q,λb ps q=>⟨#[],by rw[aR (hm b _ q λz=>z),q];simp⟩⟩
 by_cases hbe:b=e
 ·subst hbe;exact heo
 ·exact⟨u,k b u hbe q⟩
end
def trk(h:Heap)(H:Hp):List Addr:=(ND h.objs.size).filter λa=>(H a).isSome
def uX(h:Heap)(H:Hp):Heap:=W.hideAll h (trk h H)
theorem AT(h:Heap)(H:Hp):(uX h H).objs.size=h.objs.size:=W.hideAll_size _ _
theorem E5 {h:Heap}{H:Hp}{b:Addr}{o:Obj}(e:h.get? b=some o)(n:H b=none):(uX h H).get? b=some o:=
 W.hideAll_get _ e λhm=>by
  have q:(H b).isSome=true:=(OU.mp hm).2;rw[n] at q;simp at q
theorem Hl {h:Heap}{H:Hp}{b:Addr}{o:Obj}(e:(uX h H).get? b=some o):h.get? b=some o/\H b=none:=by
 have e':h.get? b=some o:=W.of_hideAll (trk h H) e;refine⟨e',?_⟩;cases q:H b with
 |none=>rfl
 |some x=>
  have hm:b∈trk h H:=OU.mpr ⟨NF.mpr (N0 e'),by simp[q]⟩;have z:(uX h H).get? b=none:=W.hideAll_none (trk h H) hm;rw[z] at e;cases e
structure Mod(K:NU)(mg:Str->Option NG)(base:Heap):Prop where
 kin:K.In base
 glob:base.Ns OR mg
 blt: ∃mb,base.Ns VU mb/\ ∀x:Str,x≠"__name__"->mb x=PF x
 nolimit:base.NoLimit
structure Cx where
 prog:OI
 w:OT
 K:NU
 mg:Str->Option NG
 base:Heap
 A:OL
 N:List Str
 s₀:NH
 H₀:Hp
 env:Env
 outer:List Env
 stack:List Env
 ex:List Addr
 fn:Str->Bool
 calm:Bool
 pn:List (Addr×Obj)
 xe:NG->NH->Prop
def frs(l:List Env):List Addr:=l.filterMap (·.frame)
abbrev Cx.fs(X:Cx):List Addr:=frs X.outer
def xG(sc:Qr)(x:Str):Prop:=sc.names.lookup x=some .local\/sc.names.lookup x=some .cell\/sc.names.lookup x=some .free
def D4(sc:Qr)(x:Str):Prop:=sc.names.lookup x=some .local\/sc.names.lookup x=some .cell
def L6(env:Env)(h:Heap)(m:Str->Option NG)(x:Str)(u:NG):Prop:=
 (env.kindOf x=some .local/\m x=some u)\/((env.kindOf x=some .cell\/env.kindOf x=some .free)/\ ∃c,env.cells.lookup x=some c/\h.IsCell c (some u))
structure Cx.Ok(X:Cx):Prop where
 mod:Mod X.K X.mg X.base
 kind:X.env.scope.kind=.function
 glob:X.env.globals=OR
 blt:X.env.builtins=VU
 above:X.s₀.heap.objs.size<=X.env.locals
 inj: ∀x y c,X.env.cells.lookup x=some c->X.env.cells.lookup y=some c->x=y
 has: ∀x,(X.env.kindOf x=some .cell\/X.env.kindOf x=some .free)-> ∃c,X.env.cells.lookup x=some c
 cab: ∀x c,X.fn x=true->X.env.cells.lookup x=some c->X.s₀.heap.objs.size<=c
 hd:X.calm=true->X.A.handled=none
 frames:X.A.frames=some X.stack
 stk:X.stack=X.outer\/(X.stack=X.env::X.outer/\X.env.frame=some X.env.locals)
 exf: ∀b∈X.ex,b≠X.env.locals/\ ∀x c,X.env.cells.lookup x=some c->c≠b
 bs: ∀b o,X.base.get? b=some o->X.s₀.heap.get? b=some o/\X.H₀ b=none
 bsz:X.base.objs.size<=X.s₀.heap.objs.size
 noex: ∀b o,X.base.get? b=some o->b∉X.ex
 exfs: ∀b∈X.ex,b∉X.fs
 funs:X.s₀.heap.FunFrames X.base X.outer
 frf: ∀b∈X.fs,X.H₀ b=none
structure Inv(X:Cx)(ah:List (Addr×Obj))(σ:List (Option V))(H:Hp)(s:NH):Prop where
 ok:X.Ok
 os:s.os=X.s₀.os
 bare:R7 s.gens
 base:Un X.fs X.ex X.H₀ H X.s₀.heap s.heap
 loc: ∃m,s.heap.Ns X.env.locals m/\ ∀(i:Nat) (x:Str) (v:V),X.N[i]? =some x->σ[i]? =some (some v)->xG X.env.scope x-> ∃u,RelV v u/\L6 X.env s.heap m x u
 cell: ∀x c,X.env.cells.lookup x=some c-> ∃v,s.heap.IsCell c v
 free:H X.env.locals=none
 freeC: ∀x c,X.env.cells.lookup x=some c->H c=none
 pin: ∀p∈X.pn++ah,s.heap.get? p.1=some p.2/\H p.1=none/\p.1≠X.env.locals/\p.1∉X.fs/\ ∀v,p.2.data≠ .cell v
 hok:HOk X.prog X.w H s.heap
 len:σ.length=X.N.length
section
variable {X:Cx}{ah:List (Addr×Obj)}{σ:List (Option V)}{H H':Hp}{s:NH}{h':Heap}
theorem Cx.Ok.nofr(ok:X.Ok){b:Addr}{o:Obj}(e:X.base.get? b=some o):b∉X.fs:=λhb=>by
 have:=(ok.funs.mem hb).1;rw[e] at this;cases this
theorem Inv.bs(I:Inv X ah σ H s): ∀b o,X.base.get? b=some o->s.heap.get? b=some o/\H b=none:=λb o e=>
 ⟨I.base.keep b o (I.ok.bs b o e).1 (I.ok.bs b o e).2 (I.ok.nofr e) (I.ok.noex b o e),I.base.free b o (I.ok.bs b o e).1 (I.ok.bs b o e).2 (I.ok.noex b o e)⟩
theorem Inv.bk(I:Inv X ah σ H s): ∀b o,X.base.get? b=some o->s.heap.get? b=some o:=λb o e=>(I.bs b o e).1
theorem Inv.mod(I:Inv X ah σ H s):Mod X.K X.mg X.base:=I.ok.mod
theorem Inv.kIn(I:Inv X ah σ H s):X.K.In s.heap:=I.ok.mod.kin.keeps I.bk
theorem Inv.lt(I:Inv X ah σ H s):X.env.locals<s.heap.objs.size:=let⟨_,hn,_⟩:=I.loc;hn.lt
theorem Inv.sz(I:Inv X ah σ H s):X.s₀.heap.objs.size<=s.heap.objs.size:=OE I.ok.above (Q9 I.lt)
theorem Inv.nofs(I:Inv X ah σ H s){a:Addr}(h:s.heap.objs.size<=a):a∉X.fs:=λhb=>by
 obtain⟨_,o,ho,_⟩:=I.ok.funs.mem hb;exact absurd (NV (N0 ho) (OE I.sz h)) (QV _)
theorem Inv.cne(I:Inv X ah σ H s): ∀x c,X.env.cells.lookup x=some c->c≠X.env.locals:=λx c e z=>by
 obtain⟨v,o,ho,hd⟩:=I.cell x c e;obtain⟨m,⟨o',es,ep,ho',hd',_⟩,_⟩:=I.loc;rw[z,ho'] at ho;cases ho;rw[hd'] at hd;cases hd
theorem Inv.funs(I:Inv X ah σ H s):s.heap.FunFrames X.base X.outer:=by
 have all: ∀(l:List Env),(∀b∈frs l,b∈X.fs)->X.s₀.heap.FunFrames X.base l->s.heap.FunFrames X.base l:=by
  intro l
  induction l with
  |nil=>intro _ _;trivial
  |cons env r ih=>
   intro hs hl;obtain⟨hk,⟨L,o,hf,hn,ho,hd⟩,hr⟩:=hl;have hL:L∈X.fs:=hs L (by unfold frs;rw[Q0,hf];exact Oe);obtain⟨sl,e⟩:=I.base.slot L o ho (I.ok.frf L hL) hL λz=>I.ok.exfs L z hL
   exact⟨hk,⟨L,_,hf,hn,e,hd⟩,ih (λb hb=>hs b (by unfold frs;rw[Q0,hf];exact N3 _ hb)) hr⟩
 exact all X.outer (λ_ hb=>hb) I.ok.funs
theorem Inv.stack(I:Inv X ah σ H s):s.heap.FunFrames X.base X.stack:=by
 rcases I.ok.stk with e|⟨e,hf⟩
 ·rw[e];exact I.funs
 ·rw[e];obtain⟨m,hn,_⟩:=I.loc;refine .cons (by rw[I.ok.kind];decide) hf hn ?_ I.funs;exact Heap.get?_none_of_le (OE I.ok.bsz I.ok.above)
theorem Inv.stkSub(I:Inv X ah σ H s): ∀b∈frs X.stack,b∈X.env.locals::X.fs:=λb hb=>by
 rcases I.ok.stk with e|⟨e,hf⟩
 ·rw[e] at hb;exact N3 _ hb
 ·rw[e] at hb;unfold frs at hb;rw[Q0,hf] at hb;exact hb
theorem Inv.stkFree(I:Inv X ah σ H s): ∀b∈frs X.stack,H b=none:=λb hb=>by
 rcases Oc.mp (I.stkSub b hb) with e|hb
 ·rw[e];exact I.free
 ·obtain⟨_,o,ho,_⟩:=I.ok.funs.mem hb;exact I.base.free b o ho (I.ok.frf b hb) λz=>I.ok.exfs b z hb
theorem Inv.step {g':Array GenState}{t':Nat}{d':Drawn}{ch:List Addr}(I:Inv X ah σ H s)
 (hch: ∀b∈ch,(b∈X.ex\/X.s₀.heap.objs.size<=b)/\b≠X.env.locals/\(∀x c,X.env.cells.lookup x=some c->c≠b)/\ ∀p∈X.pn++ah,p.1≠b)
 (keep: ∀b o,b≠X.env.locals->b∉X.fs->b∉ch->s.heap.get? b=some o->H b=none->h'.get? b=some o)
 (slot: ∀b o,b≠X.env.locals->b∈X.fs->b∉ch->s.heap.get? b=some o->H b=none-> ∃sl,h'.get? b=some {o with slots:=sl}) (free: ∀b o,b∉ch->s.heap.get? b=some o->H b=none->H' b=none)
 (there: ∀b o,b∉ch->s.heap.get? b=some o-> ∃o',h'.get? b=some o')
 (tups: ∀b xs,H b=some (.tup xs)->H' b=some (.tup xs)) (frzs: ∀b o u,H b=some (.frz o u)->H' b=some (.frz o u)) (tbls: ∀b ps,H b=some (.tbl ps)-> ∃more,H' b=some (.tbl (ps++more)))
 (ns: ∀m,s.heap.Ns X.env.locals m->h'.Ns X.env.locals m) (hok:HOk X.prog X.w H' h') (hg:R7 g'):
 Inv X ah σ H' {s with heap:=h',gens:=g',drawn:=d',toks:=t'}:=by
 have neL: ∀b o,X.s₀.heap.get? b=some o->b≠X.env.locals:=λb o e=>Oz (NV (N0 e) I.ok.above)
 have neC: ∀b o,X.s₀.heap.get? b=some o->b∉X.ex->b∉ch:=λb o e hx hb=>by
  rcases(hch b hb).1 with z|z
  ·exact hx z
  ·exact absurd (NV (N0 e) z) (QV _)
 have fx: ∀x c,X.env.cells.lookup x=some c-> ∀v,s.heap.IsCell c v->h'.IsCell c v:=λx c e v hq_=>by
  obtain⟨o,ho,hd⟩:=hq_;have nch:c∉ch:=λz=>(hch c z).2.2.1 x c e rfl
  by_cases hc:c∈X.fs
  ·obtain⟨sl,q⟩:=slot c o (I.cne x c e) hc nch ho (I.freeC x c e);exact⟨_,q,hd⟩
  ·exact⟨o,keep c o (I.cne x c e) hc nch ho (I.freeC x c e),hd⟩
 refine⟨I.ok,I.os,hg,⟨λb o e n hb hx=>?_,λb o e n hb hx=>?_,λb o e n hx=>?_,λb o e hx=>?_,λb xs e=>tups b xs (I.base.tups b xs e),λb o xs e=>frzs b o xs (I.base.frzs b o xs e),λb ps e=>?_⟩,?_,λx c e=>?_,?_,λx c e=>?_,λp hp=>?_,hok,I.len⟩
 ·exact keep b o (neL b o e) hb (neC b o e hx) (I.base.keep b o e n hb hx) (I.base.free b o e n hx)
 ·obtain⟨sl,e1⟩:=I.base.slot b o e n hb hx;obtain⟨sl',e2⟩:=slot b _ (neL b o e) hb (neC b o e hx) e1 (I.base.free b o e n hx);exact⟨sl',e2⟩
 ·obtain⟨o',e1⟩:=I.base.there b o e hx;exact free b o' (neC b o e hx) e1 (I.base.free b o e n hx)
 ·obtain⟨o',e1⟩:=I.base.there b o e hx;exact there b o' (neC b o e hx) e1
 ·obtain⟨m1,e1⟩:=I.base.tbls b ps e;obtain⟨m2,e2⟩:=tbls b _ e1;exact⟨m1++m2,by rw[e2,VT]⟩
 ·obtain⟨m,hn,hl⟩:=I.loc;refine⟨m,ns m hn,λi x v e1 e2 e3=>?_⟩;obtain⟨u,r,l⟩:=hl i x v e1 e2 e3;refine⟨u,r,?_⟩;rcases l with l|⟨k,c,e,z⟩
  ·exact .inl l
  ·exact .inr ⟨k,c,e,fx x c e _ z⟩
 ·obtain⟨v,z⟩:=I.cell x c e;exact⟨v,fx x c e v z⟩
 ·obtain⟨m,⟨o,_,_,ho,_⟩,_⟩:=I.loc;exact free _ o (λz=>(hch _ z).2.1 rfl) ho I.free
 ·obtain⟨v,o,ho,hd⟩:=I.cell x c e;exact free c o (λz=>(hch c z).2.2.1 x c e rfl) ho (I.freeC x c e)
 ·obtain⟨e,n,ne,nf,d⟩:=I.pin p hp;have nch:p.1∉ch:=λz=>(hch p.1 z).2.2.2 p hp rfl
  exact⟨keep p.1 p.2 ne nf nch e n,free p.1 p.2 nch e n,ne,nf,d⟩
theorem Inv.un {t':Nat}(I:Inv X ah σ H s)(u:Un X.fs [] H H' s.heap h')(hok:HOk X.prog X.w H' h'):Inv X ah σ H' {s with heap:=h',toks:=t'}:=by
 obtain⟨m,⟨o,es,ep,ho,r⟩,_⟩:=id I.loc;obtain⟨sl,hL⟩:=u.any ho I.free (by simp)
 exact I.step (g':=s.gens) (d':=s.drawn) (ch:=[]) (λ_ z=>nomatch z) (λb o _ hb _ e n=>u.keep b o e n hb (by simp)) (λb o _ hb _ e n=>u.slot b o e n hb (by simp)) (λb o _ e n=>u.free b o e n (by simp)) (λb o _ e=>u.there b o e (by simp)) u.tups u.frzs u.tbls (λm' hm=>by
  obtain⟨o',es',ep',ho',r'⟩:=hm
  rw[ho] at ho';cases ho';exact⟨_,es',ep',hL,r'⟩) hok I.bare
theorem Inv.call {g':Array GenState}{t':Nat}{d':Drawn}{ch:List Addr}(I:Inv X ah σ H s)(u:Un (frs X.stack) ch H H' s.heap h')(hok:HOk X.prog X.w H' h')(hg:R7 g')
 (hch: ∀b∈ch,(b∈X.ex\/X.s₀.heap.objs.size<=b)/\b≠X.env.locals/\(∀x c,X.env.cells.lookup x=some c->c≠b)/\ ∀p∈X.pn++ah,p.1≠b):
 Inv X ah σ H' {s with heap:=h',gens:=g',drawn:=d',toks:=t'}:=by
 obtain⟨m,⟨o,es,ep,ho,r⟩,_⟩:=id I.loc;obtain⟨sl,hL⟩:=u.any ho I.free λz=>(hch _ z).2.1 rfl
 exact I.step (ch:=ch) hch (λb o hL hb hc e n=>u.keep b o e n (λz=>(Oc.mp (I.stkSub b z)).elim hL hb) hc) (λb o _ _ hc e n=>u.any e n hc) (λb o hc e n=>u.free b o e n hc) (λb o hc e=>u.there b o e hc) u.tups u.frzs u.tbls (λm' hm=>by
  obtain⟨o',es',ep',ho',r'⟩:=hm
  rw[ho] at ho';cases ho';exact⟨_,es',ep',hL,r'⟩) hok hg
theorem Inv.turned {t':Nat}{it:Addr}(I:Inv X ah σ H s)(k: ∀b o,b≠it->s.heap.get? b=some o->h'.get? b=some o)(hn:H it=none)(hL:it≠X.env.locals)
 (h1:it∈X.ex\/X.s₀.heap.objs.size<=it) (h2: ∀x c,X.env.cells.lookup x=some c->c≠it) (h3: ∀p∈X.pn++ah,p.1≠it):Inv X ah σ H {s with heap:=h',toks:=t'}:=by
 have nit: ∀b u,H b=some u->b≠it:=λb u e z=>by rw[z,hn] at e;cases e
 refine I.step (g':=s.gens) (d':=s.drawn) (ch:=[it]) (λb hb=>?_) (λb o _ _ hc e _=>k b o (λz=>hc (by simp[z])) e) (λb o _ _ hc e _=>⟨o.slots,k b o (λz=>hc (by simp[z])) e⟩) (λ_ _ _ _ n=>n)
  (λb o hc e=>⟨o,k b o (λz=>hc (by simp[z])) e⟩) (λ_ _ e=>e) (λ_ _ _ e=>e) (λb ps e=>⟨#[],by rw[e];simp⟩) (λm hm=>?_) (λb u e=>?_) I.bare
 ·have e:b=it:=by simpa using hb
  subst e;exact⟨h1,hL,h2,h3⟩
 ·obtain⟨o,es,ep,ho,r⟩:=hm;exact⟨o,es,ep,k _ o (OX hL) ho,r⟩
 ·refine(I.hok b u e).stay (λc v hc q=>k c v ?_ q) (λ_ q=>q) λ_ _ q=>q
  rcases hc with z|z
  ·rw[z];exact nit b u e
  ·exact nit c _ z
theorem Inv.tok(I:Inv X ah σ H s)(t:Nat):Inv X ah σ H {s with toks:=t}:=I.un (h':=s.heap) (t':=t) Un.refl I.hok
theorem Inv.kept {t':Nat}(I:Inv X ah σ H s)(k: ∀b u,s.heap.get? b=some u->h'.get? b=some u):Inv X ah σ H {s with heap:=h',toks:=t'}:=I.un (Un.kept k) (I.hok.kept k)
theorem Inv.laid {a:Addr}{o:HO}{t':Nat}(I:Inv X ah σ H s)(k: ∀b u,s.heap.get? b=some u->h'.get? b=some u)(hp:s.heap.objs.size<=a)(new:ObjOk X.prog X.w (cm H a o) h' a o):
 Inv X ah σ (cm H a o) {s with heap:=h',toks:=t'}:=I.un (Un.laid k hp (I.hok.fresh hp)) (I.hok.laid k hp new)
theorem Inv.write {x e:Addr}{o:HO}{t':Nat}(I:Inv X ah σ H s)(mu:LX (H x))(he:e=x\/H e=some (.own x))(k: ∀b u,b≠e->s.heap.get? b=some u->h'.get? b=some u)(heo: ∃u,h'.get? e=some u)
 (new:ObjOk X.prog X.w (cm H x o) h' x o):Inv X ah σ (cm H x o) {s with heap:=h',toks:=t'}:=I.un (Un.write mu he k heo) (I.hok.write mu he k heo new)
theorem Inv.pins_of {pins':List (Addr×Obj)}(I:Inv X ah σ H s)(h: ∀p∈pins',s.heap.get? p.1=some p.2/\H p.1=none/\p.1≠X.env.locals/\p.1∉X.fs/\ ∀v,p.2.data≠ .cell v):Inv X pins' σ H s:=
 ⟨I.ok,I.os,I.bare,I.base,I.loc,I.cell,I.free,I.freeC,λp hp=>(Pt.mp hp).elim (λz=>I.pin p (PZ _ z)) (h p),I.hok,I.len⟩
theorem vM {N:List Str}(hN:N.Nodup){i j:Nat}{x:Str}(a:N[i]? =some x)(b:N[j]? =some x):i=j:=by
 obtain⟨h1,e1⟩:=NY.mp a;obtain⟨h2,e2⟩:=NY.mp b;exact(Wv hN).mp (e1.trans e2.symm)
theorem nX {M:ZZ}{A:OL}{E:NG->NH->Prop}{i:Nat}{x:Str}{v:V}{u:NG}{Q:Unit->NH->Prop}(I:Inv X ah σ H s)(hN:X.N.Nodup)(hi:X.N[i]? =some x)(hx:D4 X.env.scope x)(r:RelV v u)
 (h: ∀s',Inv X ah (σ.set i (some v)) H s'->(∃a,Pd a s.heap s'.heap/\(a=X.env.locals\/X.env.cells.lookup x=some a))->Q () s') (hf:X.fn x=true\/X.env.scope.names.lookup x=some .local:=by first|exact .inl rfl|exact .inr rfl|assumption):N1 M A (Yq X.env x u) Q E s:=by
 obtain⟨m,hn,hl⟩:=id I.loc;have hcls:(X.env.scope.kind== .class||(X.env.scope.kind== .module&&X.env.locals !=X.env.globals))=false:=by rw[I.ok.kind];rfl
 have hiσ:i<σ.length:=by rw[I.len];exact(NY.mp hi).1
 have cne:=I.cne;have tracked: ∀ {a:Addr} {h':Heap},(∃o,s.heap.get? a=some o/\H a=none)->Pd a s.heap h'->HOk X.prog X.w H h':=λ{a h'} ha hs b ob e=>by
  obtain⟨_,_,hfree⟩:=ha;refine(I.hok b ob e).stay (λc w' hc q=>(hs.2 c ?_).trans q) (λ_ q=>q) λ_ _ q=>q
  rintro rfl;rcases hc with rfl|hc
  ·rw[hfree] at e;cases e
  ·rw[hfree] at hc;cases hc
 rcases hx with hk|hk
 ·refine wpAny_storeName_local hk hn (λh' hn' hs=>?_) hcls;obtain⟨oL,_,_,hoL,_⟩:=id hn;refine h _ ⟨I.ok,I.os,I.bare,⟨λb o e n hb hx=>?_,λb o e n hb hx=>?_,I.base.free,λb o e hx=>?_,I.base.tups,I.base.frzs,I.base.tbls⟩,⟨_,hn',λj y v' e1 e2 e3=>?_⟩,λy c e=>?_,I.free,I.freeC,λp hp=>?_,tracked ⟨oL,hoL,I.free⟩ hs,by simpa using I.len⟩ ⟨_,hs,.inl rfl⟩
  ·exact(hs.2 b (Oz (NV (N0 e) I.ok.above))).trans (I.base.keep b o e n hb hx)
  ·obtain⟨sl,e1⟩:=I.base.slot b o e n hb hx;exact⟨sl,(hs.2 b (Oz (NV (N0 e) I.ok.above))).trans e1⟩
  ·obtain⟨o',e1⟩:=I.base.there b o e hx;exact⟨o',(hs.2 b (Oz (NV (N0 e) I.ok.above))).trans e1⟩
  ·by_cases hj:j=i
   ·subst hj;rw[hi] at e1;cases e1;rw[Og hiσ] at e2;cases e2;exact⟨u,r,.inl ⟨hk,by simp⟩⟩
   ·rw[N7 (OX hj)] at e2;obtain⟨u',r',q⟩:=hl j y v' e1 e2 e3;refine⟨u',r',?_⟩;rcases q with⟨k,e⟩|⟨k,c,e,z⟩
    ·refine .inl ⟨k,?_⟩;have:y≠x:=λe=>hj (vM hN e1 (e▸hi))
     simp[this,e]
    ·exact .inr ⟨k,c,e,z.sameBut hs (cne y c e)⟩
  ·obtain⟨w',z⟩:=I.cell y c e;exact⟨w',z.sameBut hs (cne y c e)⟩
  ·obtain⟨e,n,ne,nf,d⟩:=I.pin p hp;exact⟨(hs.2 p.1 ne).trans e,n,ne,nf,d⟩
 ·have hfn:X.fn x=true:=by
   rcases hf with z|z
   ·exact z
   ·rw[z] at hk;cases hk
  obtain⟨c,hc⟩:=I.ok.has x (.inl hk);obtain⟨w',z⟩:=I.cell x c hc;refine wpAny_storeName_cell I.ok.kind hk hc z (λh' hc' hs=>?_);obtain⟨oc,hoc,hocd⟩:=id z;refine h {s with heap:=h'} ⟨I.ok,I.os,I.bare,⟨λb o e n hb hx=>?_,λb o e n hb hx=>?_,I.base.free,λb o e hx=>?_,I.base.tups,I.base.frzs,I.base.tbls⟩,⟨m,hn.sameBut hs (OX (cne x c hc)),λj y v' e1 e2 e3=>?_⟩,λy c' e=>?_,I.free,I.freeC,λp hp=>?_,tracked ⟨oc,hoc,I.freeC x c hc⟩ hs,by simpa using I.len⟩ ⟨c,hs,.inr hc⟩
  ·exact(hs.2 b (Oz (NV (N0 e) (I.ok.cab x c hfn hc)))).trans (I.base.keep b o e n hb hx)
  ·obtain⟨sl,e1⟩:=I.base.slot b o e n hb hx;exact⟨sl,(hs.2 b (Oz (NV (N0 e) (I.ok.cab x c hfn hc)))).trans e1⟩
  ·obtain⟨o',e1⟩:=I.base.there b o e hx;exact⟨o',(hs.2 b (Oz (NV (N0 e) (I.ok.cab x c hfn hc)))).trans e1⟩
  ·by_cases hj:j=i
   ·subst hj;rw[hi] at e1;cases e1;rw[Og hiσ] at e2;cases e2;exact⟨u,r,.inr ⟨.inl hk,c,hc,hc'⟩⟩
   ·rw[N7 (OX hj)] at e2;obtain⟨u',r',q⟩:=hl j y v' e1 e2 e3;refine⟨u',r',?_⟩;rcases q with q|⟨k,c',e,z'⟩
    ·exact .inl q
    ·refine .inr ⟨k,c',e,z'.sameBut hs ?_⟩;rintro rfl;exact hj (vM hN e1 (I.ok.inj _ _ _ e hc▸hi))
  ·by_cases hcc:c'=c
   ·subst hcc;exact⟨_,hc'⟩
   ·obtain⟨w2,z2⟩:=I.cell y c' e;exact⟨w2,z2.sameBut hs hcc⟩
  ·obtain⟨e,n,ne,nf,d⟩:=I.pin p hp;refine⟨(hs.2 p.1 ?_).trans e,n,ne,nf,d⟩;intro q;rw[q,hoc] at e;have q':oc=p.2:=OS e;exact d w' (by rw[<-q'];exact hocd)
theorem qk {M:ZZ}{A:OL}{E:NG->NH->Prop}{i:Nat}{x:Str}{v:V}{u:NG}{Q:Unit->NH->Prop}(I:Inv X ah σ H s)(hN:X.N.Nodup)(hi:X.N[i]? =some x)(hx:D4 X.env.scope x)(r:RelV v u)
 (h: ∀s',Inv X ah (σ.set i (some v)) H s'->Q () s') (hf:X.fn x=true\/X.env.scope.names.lookup x=some .local:=by first|exact .inl rfl|exact .inr rfl|assumption):N1 M A (Yq X.env x u) Q E s:=
 nX I hN hi hx r (λs' I' _=>h s' I') hf
theorem Inv.call' {s':NH}{ch:List Addr}(I:Inv X ah σ H s)(ho:s'.os=s.os)(u:Un (frs X.stack) ch H H' s.heap s'.heap)(hok:HOk X.prog X.w H' s'.heap)(hg:R7 s'.gens)
 (hch: ∀b∈ch,(b∈X.ex\/X.s₀.heap.objs.size<=b)/\b≠X.env.locals/\(∀x c,X.env.cells.lookup x=some c->c≠b)/\ ∀p∈X.pn++ah,p.1≠b):Inv X ah σ H' s':=by
 obtain⟨h',g',d',t',o'⟩:=s';have e:o'=s.os:=ho;subst e;exact I.call (g':=g') (t':=t') (d':=d') u hok hg hch
end
abbrev XK:=NG->Option Addr->Hp->Prop
abbrev St:=List (Option V)
abbrev VK:=V->Hp->Prop
abbrev TE:=St->Hp->VK->Prop
abbrev TT:=St->Hp->(Bool->Hp->Prop)->Prop
abbrev TA:=St->Hp->(List V->Hp->Prop)->Prop
structure Ends where
 nx:St->Hp->Prop
 rt:VK
 bk:St->Hp->Prop:=λ_ _=>False
 ct:St->Hp->Prop:=λ_ _=>False
abbrev TS:=Ends->St->Hp->Prop
def EP(X:Cx)(ah:List (Addr×Obj))(σ:St)(Q:VK)(u:NG)(s':NH):Prop:= ∃v H',Inv X ah σ H' s'/\RelV v u/\Q v H'
def TP(X:Cx)(ah:List (Addr×Obj))(σ:St)(Q:Bool->Hp->Prop)(b:Bool)(s':NH):Prop:= ∃H',Inv X ah σ H' s'/\Q b H'
def AP(X:Cx)(ah:List (Addr×Obj))(σ:St)(Q:List V->Hp->Prop)(us:List NG)(s':NH):Prop:= ∃vs H',Inv X ah σ H' s'/\Vals vs us/\Q vs H'
def SP(X:Cx)(ah:List (Addr×Obj))(D:Ends)(f:Flow)(s':NH):Prop:=
 match f with
 | .next=> ∃σ' H',Inv X ah σ' H' s'/\D.nx σ' H'
 | .brk=> ∃σ' H',Inv X ah σ' H' s'/\D.bk σ' H'
 | .cont=> ∃σ' H',Inv X ah σ' H' s'/\D.ct σ' H'
 | .ret u=> ∃v σ' H',Inv X ah σ' H' s'/\RelV v u/\D.rt v H'
def PE(X:Cx)(e:Expr)(t:TE):Prop:=
 ∀(ah:List (Addr×Obj)) (s:NH) (σ:St) (H:Hp) (Q:VK),Inv X ah σ H s->t σ H Q->N1 (model X.prog X.w) X.A (eval e X.env) (EP X ah σ Q) X.xe s
def PT(X:Cx)(e:Expr)(t:TT):Prop:=
 ∀(ah:List (Addr×Obj)) (s:NH) (σ:St) (H:Hp) (Q:Bool->Hp->Prop),Inv X ah σ H s->t σ H Q->N1 (model X.prog X.w) X.A (isTrue e X.env (eval e X.env)) (TP X ah σ Q) X.xe s
def PW(X:Cx)(e:Expr)(t:TT):Prop:=
 ∀(whole:Sem NG) (ah:List (Addr×Obj)) (s:NH) (σ:St) (H:Hp) (Q:Bool->Hp->Prop),Inv X ah σ H s->t σ H Q->N1 (model X.prog X.w) X.A (isTrue e X.env whole) (TP X ah σ Q) X.xe s
theorem PW.pt {X:Cx}{e:Expr}{t:TT}(h:PW X e t):PT X e t:=h _
def PA(X:Cx)(es:List Expr)(t:TA):Prop:=
 ∀(pos:Pos) (ah:List (Addr×Obj)) (s:NH) (σ:St) (H:Hp) (Q:List V->Hp->Prop),Inv X ah σ H s->t σ H Q->N1 (model X.prog X.w) X.A (spliced (Ql pos (N8 es X.env))) (AP X ah σ Q) X.xe s
def PS(X:Cx)(st:Stmt)(t:TS):Prop:=
 ∀(ah:List (Addr×Obj)) (s:NH) (σ:St) (H:Hp) (D:Ends),Inv X ah σ H s->t D σ H->N1 (model X.prog X.w) X.A (exec st X.env) (SP X ah D) X.xe s
def PSs(X:Cx)(st:List Stmt)(t:TS):Prop:=
 ∀(ah:List (Addr×Obj)) (s:NH) (σ:St) (H:Hp) (D:Ends),Inv X ah σ H s->t D σ H->N1 (model X.prog X.w) X.A (execs st X.env) (SP X ah D) X.xe s
theorem bU {α:Type}{t:Sem α}{Q Q':α->NH->Prop}{M:ZZ}{A:OL}{E:NG->NH->Prop}{s:NH}(h:N1 M A t Q E s)(hQ: ∀a s,Q a s->Q' a s):N1 M A t Q' E s:=OM h hQ λ_ _ x=>x
section
variable {X:Cx}
def Lj(i:Nat):TE:=λσ H Q=> ∃v,σ[i]? =some (some v)/\Q v H
def tC(v:V):TE:=λ_ H Q=>Q v H
theorem JI {i:Nat}{x:Str}{pos:Pos}(hN:X.N[i]? =some x)(hv:xG X.env.scope x)(hd:(x==("__debug__":Str))=false:=by decide)(hcd:(x==("__classdict__":Str))=false:=by decide):PE X (.Name x pos) (Lj i):=by
 intro ah s σ H Q I h;obtain⟨v,e,h⟩:=h;obtain⟨m,hn,hl⟩:=I.loc;obtain⟨u,r,l⟩:=hl i x v hN e hv;have fin:EP X ah σ Q u s:=⟨v,H,I,r,h⟩
 rcases l with⟨hk,hm⟩|⟨hk,c,hc,hcell⟩
 ·exact Xh (U2 I.ok.kind hk hn hm fin) hd
 ·rcases hk with hk|hk
  ·exact Xh (Vn I.ok.kind hk hc hcell fin) hd
  ·exact Xh (wpAny_loadName_free I.ok.kind hk hc hcell fin hcd) hd
theorem JA {i j pos}:PE X (.Constant (.int i) j pos) (tC (.int i)):=λ_ _ _ H _ I h=>wpAny_Constant_int ⟨.int i,H,I.tok _,⟨_,rfl⟩,h⟩
theorem Ky {b j pos}:PE X (.Constant (.bool b) j pos) (tC (.bl b)):=λ_ _ _ H _ I h=>Constant_bool ⟨.bl b,H,I,rfl,h⟩
def Gl(X:Cx)(x:Str):Prop:=X.env.kindOf x=some .globalImplicit
theorem Hd {E:NG->NH->Prop}{ah:List (Addr×Obj)}{s:NH}{σ:St}{H:Hp}{x:Str}{u:NG}{pos:Pos}{Q:NG->NH->Prop}(I:Inv X ah σ H s)(hg:Gl X x)(hm:X.mg x=some u)(h:Q u s)
 (hd:(x==("__debug__":Str))=false:=by decide):N1 (model X.prog X.w) X.A (eval (.Name x pos) X.env) Q E s:=
 Tl I.ok.kind hg (Calls.loadGlobal_global (by rw[I.ok.glob];exact I.mod.glob.keeps I.bk) hm h) hd
theorem qH {E:NG->NH->Prop}{ah:List (Addr×Obj)}{s:NH}{σ:St}{H:Hp}{x:Str}{u:NG}{pos:Pos}{Q:NG->NH->Prop}(I:Inv X ah σ H s)(hg:Gl X x)(hm:X.mg x=none)(hv:PF x=some u)(h:Q u s)
 (hn:x≠"__name__":=by decide) (hd:(x==("__debug__":Str))=false:=by decide):N1 (model X.prog X.w) X.A (eval (.Name x pos) X.env) Q E s:=by
 obtain⟨mb,h1,h2⟩:=I.mod.blt;exact Tl I.ok.kind hg (Calls.loadGlobal_builtin (by rw[I.ok.glob];exact I.mod.glob.keeps I.bk) hm (by rw[I.ok.blt];exact h1.keeps I.bk) ((h2 x hn).trans hv) h) hd
variable {a b:Expr}{ta tb:TE}{pos:Pos}
def PC(X:Cx)(op:VD)(a b:Expr)(t:TE):Prop:=
 ∀(ah:List (Addr×Obj)) (s:NH) (σ:St) (H:Hp) (Q:VK),Inv X ah σ H s->t σ H Q->
  N1 (model X.prog X.w) X.A (eval a X.env) (λv s₁=>N1 (model X.prog X.w) X.A (eval b X.env) (λu s₂=>N1 (model X.prog X.w) X.A (Px op v u) (EP X ah σ Q) X.xe s₂) X.xe s₁) X.xe s
def tB(t:TE):TT:=λσ H Q=>t σ H λx H1=> ∃c,x=.bl c/\Q c H1
theorem IX {op:VD}{t:TE}(h:PC X op a b t)(h1:QW op b=false:=by first|exact nobehind _ (by decide) (by decide)|rfl):PT X (.Compare a [op] [b] pos) (tB t):=by
 intro ah s σ H Q I hw;refine UP (bU (h ah s σ H _ I hw) λv s1 h1=>bU h1 λu s2 h2=>bU h2 λc s3 ⟨x,H1,I1,r1,q1⟩=>?_) h1;obtain⟨d,rfl,q⟩:=q1;cases r1;exact Pl ⟨H1,I1,q⟩
variable {tA tB':TT}{rest:List Expr}
def L7(t u:TT):TT:=λσ H Q=>t σ H λc H1=>if c=true then u σ H1 Q else Q false H1
def Nv(t u:TT):TT:=λσ H Q=>t σ H λc H1=>if c=true then Q true H1 else u σ H1 Q
def ML(t:TT):TT:=λσ H Q=>t σ H λc H1=>Q (!c) H1
theorem pw_and1(ha:PT X a tA):PW X (.BoolOp .And [a] pos) tA:=by
 intro wh ah s σ H Q I h;refine isTrue_and (bU (ha ah s σ H Q I h) λc s1 e=>?_);cases c with
 |true=>exact isTrue_and_nil e
 |false=>exact e
theorem pw_or1(ha:PT X a tA):PW X (.BoolOp .Or [a] pos) tA:=by
 intro wh ah s σ H Q I h;refine isTrue_or (bU (ha ah s σ H Q I h) λc s1 e=>?_);cases c with
 |false=>exact isTrue_or_nil e
 |true=>exact e
theorem pw_and(ha:PT X a tA)(hb:PW X (.BoolOp .And (b::rest) pos) tB'):PW X (.BoolOp .And (a::b::rest) pos) (L7 tA tB'):=by
 intro wh ah s σ H Q I h;refine isTrue_and (bU (ha ah s σ H _ I h) λc s1 hq_=>?_);obtain⟨H1,I1,q1⟩:=hq_;cases c with
 |true=>exact hb wh ah s1 σ H1 Q I1 q1
 |false=>exact⟨H1,I1,q1⟩
theorem pw_or(ha:PT X a tA)(hb:PW X (.BoolOp .Or (b::rest) pos) tB'):PW X (.BoolOp .Or (a::b::rest) pos) (Nv tA tB'):=by
 intro wh ah s σ H Q I h;refine isTrue_or (bU (ha ah s σ H _ I h) λc s1 hq_=>?_);obtain⟨H1,I1,q1⟩:=hq_;cases c with
 |true=>exact⟨H1,I1,q1⟩
 |false=>exact hb wh ah s1 σ H1 Q I1 q1
theorem II(ha:PT X a tA):PT X (.UnaryOp .Not a pos) (ML tA):=by
 intro ah s σ H Q I h;exact isTrue_not (ha ah s σ H (λc H1=>Q (!c) H1) I h)
def KR(ta tb:TE):TE:=λσ H Q=>ta σ H λx H1=> ∃c,x=.bl c/\if c=true then tb σ H1 Q else Q (.bl false) H1
def Kj(ta:TE):TE:=λσ H Q=>ta σ H λx H1=> ∃c,x=.bl c/\Q (.bl (!c)) H1
theorem Jr {op}{t:TE}(h:PE X a t):PE X (.BoolOp op [a] pos) t:=λah s σ H Q I hw=>BoolOp_one (h ah s σ H Q I hw)
theorem Ic(ha:PE X a ta)(hb:PE X (.BoolOp .And (b::rest) pos) tb):PE X (.BoolOp .And (a::b::rest) pos) (KR ta tb):=by
 intro ah s σ H Q I h;refine BoolOp_and (bU (ha ah s σ H _ I h) λv s1 hq_=>?_);obtain⟨x,H1,I1,r1,q1⟩:=hq_;obtain⟨c,rfl,q1⟩:=q1;cases r1;refine Pl ?_
 cases c with
 |true=>exact hb ah s1 σ H1 Q I1 q1
 |false=>exact⟨.bl false,H1,I1,rfl,q1⟩
theorem IV(ha:PE X a ta):PE X (.UnaryOp .Not a pos) (Kj ta):=by
 intro ah s σ H Q I h;refine UnaryOp_ (bU (ha ah s σ H _ I h) λv s1 hq_=>?_);obtain⟨x,H1,I1,r1,q1⟩:=hq_;obtain⟨c,rfl,q1⟩:=q1;cases r1;exact not_of (Pl ⟨.bl (!c),H1,I1,rfl,q1⟩)
def NC(t:TT)(ta tb:TE):TE:=λσ H Q=>t σ H λc H1=>if c=true then ta σ H1 Q else tb σ H1 Q
theorem EW {c:Expr}(hc:PT X c tA)(ha:PE X a ta)(hb:PE X b tb):PE X (.IfExp c a b pos) (NC tA ta tb):=by
 intro ah s σ H Q I h;refine wpAny_IfExp (bU (hc ah s σ H _ I h) λd s1 hq_=>?_);obtain⟨H1,I1,q1⟩:=hq_;cases d with
 |true=>exact ha ah s1 σ H1 Q I1 q1
 |false=>exact hb ah s1 σ H1 Q I1 q1
end
def SqL(K:NU)(H:Hp)(a:Addr)(xs:List V):Prop:=
 Rd H a (.lst xs)\/
  ∃(o:Obj) (its:Array NG) (n:Nat),K.lookup a=some o/\o.cls=.type "list"/\o.dict=none/\o.data=.seq its n/\its.size<=Oi/\Vals xs its.toList
def SqT(K:NU)(H:Hp)(a:Addr)(xs:List V):Prop:=
 Rd H a (.tup xs)\/
  ∃(o:Obj) (its:Array NG) (n:Nat),K.lookup a=some o/\o.cls=.type "tuple"/\o.data=.seq its n/\its.size<=Oi/\Vals xs its.toList/\o.dict=none
def M6:NG->Option V
 | .none=>some .non
 | .bool b=>some (.bl b)
 | .int i _=>some (.int i)
 | .str x _=>some (.str x)
 | .bytes b _=>some (.byt b)
 | .float b _=>some (.flt b)
 | .ref a=>some (.ref a)
 | .type n=>some (.ty n)
 |_=>none
theorem RelV.abs {x:V}{u:NG}(r:RelV x u):M6 u=some x:=by
 cases x with
 |non=>cases r;rfl
 |bl _=>cases r;rfl
 |int _=>obtain⟨t,rfl⟩:=r;rfl
 |str _=>obtain⟨t,rfl⟩:=r;rfl
 |byt _=>obtain⟨t,rfl⟩:=r;rfl
 |flt _=>obtain⟨t,rfl⟩:=r;rfl
 |ref _=>cases r;rfl
 |ty _=>cases r;rfl
theorem RelV.inj {x y:V}{u:NG}(r:RelV x u)(q:RelV y u):x=y:=OS (r.abs.symm.trans q.abs)
theorem Vals.inj: ∀ {xs ys:List V} {us:List NG},Vals xs us->Vals ys us->xs=ys
 |_,_,_,.nil,.nil=>rfl
 |_,_,_,.cons r t,.cons r' t'=>by rw[r.inj r',Vals.inj t t']
section
variable {X:Cx}{ah:List (Addr×Obj)}{σ:St}{H:Hp}{s:NH}{a:Addr}{xs ys:List V}
theorem SqL.of {K:NU}(h:H a=some (.lst xs)):SqL K H a xs:=.inl (.inl h)
theorem SqT.of {K:NU}(h:H a=some (.tup xs)):SqT K H a xs:=.inl (.inl h)
theorem Inv.list(I:Inv X ah σ H s)(h:SqL X.K H a xs): ∃its:List NG,Vals xs its/\PlainL s.heap a its.toArray/\xs.length<=sizeLine:=by
 rcases h with h|⟨o,its,n,hk,hc,hd,hs,hz,r⟩
 ·obtain⟨z,its,n,r,e⟩:=h.ok I.hok;exact⟨its,r,⟨_,n,e,rfl,rfl,rfl⟩,z⟩
 ·refine⟨its.toList,r,⟨o,n,I.kIn a o hk,hc,hd,by simpa using hs⟩,?_⟩;have e:=r.length;simp only[N4] at e;omega
theorem Inv.tuple(I:Inv X ah σ H s)(h:SqT X.K H a xs): ∃its:List NG,Vals xs its/\IsTup s.heap a its.toArray/\xs.length<=sizeLine:=by
 rcases h with h|⟨o,its,n,hk,hc,hs,hz,r,_⟩
 ·obtain⟨z,its,r,p,_⟩:=h.ok I.hok;exact⟨its,r,p,z⟩
 ·refine⟨its.toList,r,⟨o,I.kIn a o hk,hc,n,by simpa using hs⟩,?_⟩;have e:=r.length;simp only[N4] at e;omega
theorem Inv.tupleN(I:Inv X ah σ H s)(h:SqT X.K H a xs):(∃o,s.heap.get? a=some o/\o.cls=.type "tuple")/\ ∃o,s.heap.get? a=some o/\o.dict=none:=by
 rcases h with h|⟨o,its,n,hk,hc,hs,hz,r,hd⟩
 ·obtain⟨z,its,r,⟨ob,e,c,_⟩,o2,e2,d2⟩:=h.ok I.hok;exact⟨⟨ob,e,c⟩,o2,e2,d2⟩
 ·exact⟨⟨o,I.kIn a o hk,hc⟩,o,I.kIn a o hk,hd⟩
theorem Inv.list_inj(I:Inv X ah σ H s)(h:SqL X.K H a xs)(h':SqL X.K H a ys):xs=ys:=by
 obtain⟨its,r,⟨o,n,e,_,_,d⟩,_⟩:=I.list h;obtain⟨its',r',⟨o',n',e',_,_,d'⟩,_⟩:=I.list h';rw[e] at e';cases e';rw[d] at d';injection d' with d1 _
 have:its=its':=by simpa using congrArg YS d1
 subst this;exact r.inj r'
theorem Inv.tuple_inj(I:Inv X ah σ H s)(h:SqT X.K H a xs)(h':SqT X.K H a ys):xs=ys:=by
 obtain⟨its,r,⟨o,e,_,n,d⟩,_⟩:=I.tuple h;obtain⟨its',r',⟨o',e',_,n',d'⟩,_⟩:=I.tuple h';rw[e] at e';cases e';rw[d] at d';injection d' with d1 _
 have:its=its':=by simpa using congrArg YS d1
 subst this;exact r.inj r'
end
abbrev Cx.wish(X:Cx)(E:NG->NH->Prop):Cx:={X with xe:=E}
abbrev Cx.nox(X:Cx):Cx:=X.wish λ_ _=>False
theorem Cx.Ok.wish {X:Cx}(ok:X.Ok)(E:NG->NH->Prop):(X.wish E).Ok:=
 ⟨ok.mod,ok.kind,ok.glob,ok.blt,ok.above,ok.inj,ok.has,ok.cab,ok.hd,ok.frames,ok.stk,ok.exf,ok.bs,ok.bsz,ok.noex,ok.exfs,ok.funs,ok.frf⟩
theorem Cx.Ok.unwish {X:Cx}{E:NG->NH->Prop}(ok:(X.wish E).Ok):X.Ok:=
 ⟨ok.mod,ok.kind,ok.glob,ok.blt,ok.above,ok.inj,ok.has,ok.cab,ok.hd,ok.frames,ok.stk,ok.exf,ok.bs,ok.bsz,ok.noex,ok.exfs,ok.funs,ok.frf⟩
section
variable {X:Cx}{ah:List (Addr×Obj)}{σ:St}{H:Hp}{s:NH}{E:NG->NH->Prop}
theorem Inv.wish(I:Inv X ah σ H s)(E:NG->NH->Prop):Inv (X.wish E) ah σ H s:=⟨I.ok.wish E,I.os,I.bare,I.base,I.loc,I.cell,I.free,I.freeC,I.pin,I.hok,I.len⟩
theorem Inv.unwish(I:Inv (X.wish E) ah σ H s):Inv X ah σ H s:=⟨I.ok.unwish,I.os,I.bare,I.base,I.loc,I.cell,I.free,I.freeC,I.pin,I.hok,I.len⟩
theorem SP.unwish {D:Ends}{f:Flow}{s':NH}(h:SP (X.wish E) ah D f s'):SP X ah D f s':=by
 cases f with
 |next=>obtain⟨σ',H',I,q⟩:=h;exact⟨σ',H',I.unwish,q⟩
 |brk=>obtain⟨σ',H',I,q⟩:=h;exact⟨σ',H',I.unwish,q⟩
 |cont=>obtain⟨σ',H',I,q⟩:=h;exact⟨σ',H',I.unwish,q⟩
 |ret u=>obtain⟨v,σ',H',I,r,q⟩:=h;exact⟨v,σ',H',I.unwish,r,q⟩
theorem PSs.nox {st:List Stmt}{t:TS}(h:PSs X.nox st t):PSs X st t:=λah s σ H D I hw=>
 OM (h ah s σ H D (I.wish _) hw) (λ_ _ q=>q.unwish) λ_ _ z=>False.elim z
end
section
variable {X:Cx}{st:Stmt}{rest:List Stmt}{t u:TS}{e:Expr}{te:TE}{pos:Pos}
def Lw:TS:=λD σ H=>D.nx σ H
def MA(t u:TS):TS:=λD σ H=>t {D with nx:=u D} σ H
theorem Gc:PSs X [] Lw:=λ_ _ σ H _ I h=>SV ⟨σ,H,I,h⟩
theorem Co(h1:PS X st t)(h2:PSs X rest u):PSs X (st::rest) (MA t u):=by
 intro ah s σ H D I h;refine Ww (bU (h1 ah s σ H {D with nx:=u D} I h) λf s1 q=>?_);cases f with
 |next=>
  obtain⟨σ',H',I',q⟩:=q;exact h2 ah s1 σ' H' D I' q
 |ret v=>exact q
 |brk=>exact q
 |cont=>exact q
theorem Gb(h1:PS X st t):PSs X [st] t:=by
 intro ah s σ H D I h;refine Ww (bU (h1 ah s σ H D I h) λf s1 q=>?_);cases f with
 |next=>exact SV q
 |ret v=>exact q
 |brk=>exact q
 |cont=>exact q
theorem Inv.quiet {ah:List (Addr×Obj)}{σ:St}{H:Hp}{s:NH}(I:Inv X ah σ H s):interactive X.env=false:=by simp[interactive,I.ok.kind]
def Kt(te:TE):TS:=λD σ H=>te σ H λ_ H1=>D.nx σ H1
theorem FI(he:PE X e te)(hs:Q1 e none pos.line X.env=pure false:=by rfl):PS X (.Expr e pos) (Kt te):=by
 intro ah s σ H D I h;exact wpAny_Expr_any (bU (he ah s σ H _ I h) λv s1 ⟨x,H1,I1,r1,q1⟩=>⟨σ,H1,I1,q1⟩) I.quiet hs
def L9(te:TE):TS:=λD σ H=>te σ H D.rt
theorem DK(he:PE X e te):PS X (.Return (some e) pos) (L9 te):=by
 intro ah s σ H D I h;exact wpAny_Return_some (bU (he ah s σ H _ I h) λv s1 ⟨x,H1,I1,r1,q1⟩=>⟨x,σ,H1,I1,r1,q1⟩)
def MQ(c:TT)(t u:TS):TS:=λD σ H=>c σ H λb H1=>if b=true then t D σ H1 else u D σ H1
theorem Lr {c:Expr}{a b:List Stmt}{tc:TT}(hc:PT X c tc)(ha:PSs X a t)(hb:PSs X b u):PS X (.If c a b pos) (MQ tc t u):=by
 intro ah s σ H D I h;refine wpAny_If (bU (hc ah s σ H _ I h) λd s1 hq_=>?_);obtain⟨H1,I1,q1⟩:=hq_;cases d with
 |true=>exact ha ah s1 σ H1 D I1 q1
 |false=>exact hb ah s1 σ H1 D I1 q1
end
abbrev TG:=V->St->Hp->(St->Hp->Prop)->Prop
abbrev Bi:=List V->St->Hp->(St->Hp->Prop)->Prop
def PG(X:Cx)(target:Expr)(t:TG):Prop:=
 ∀(ah:List (Addr×Obj)) (s:NH) (σ:St) (H:Hp) (v:V) (u:NG) (Q:St->Hp->Prop),Inv X ah σ H s->RelV v u->t v σ H Q->
  N1 (model X.prog X.w) X.A (Q2 target X.env u) (λ_ s'=> ∃σ' H',Inv X ah σ' H' s'/\Q σ' H') X.xe s
def PGs(X:Cx)(ts:List Expr)(t:Bi):Prop:=
 ∀(ah:List (Addr×Obj)) (s:NH) (σ:St) (H:Hp) (vs:List V) (us:List NG) (Q:St->Hp->Prop),Inv X ah σ H s->Vals vs us->t vs σ H Q->
  N1 (model X.prog X.w) X.A (X5 ((Ps ts X.env).map (·.2)) us) (λ_ s'=> ∃σ' H',Inv X ah σ' H' s'/\Q σ' H') X.xe s
abbrev Iw:=V->V->V->Hp->(Hp->Prop)->Prop
def KN(X:Cx)(t:Iw):Prop:=
 ∀(ah:List (Addr×Obj)) (s:NH) (σ:St) (H:Hp) (o i v:V) (ov iv u:NG) (Q:Hp->Prop),Inv X ah σ H s->RelV o ov->RelV i iv->RelV v u->t o i v H Q->
  N1 (model X.prog X.w) X.A (setItem ov iv u) (λ_ s'=> ∃H',Inv X ah σ H' s'/\Q H') X.xe s
abbrev LO:=V->V->Hp->VK->Prop
def Mc(X:Cx)(op:Xi)(t:LO):Prop:=
 ∀(ah:List (Addr×Obj)) (s:NH) (σ:St) (H:Hp) (x y:V) (v u:NG) (Q:VK),Inv X ah σ H s->RelV x v->RelV y u->t x y H Q->
  N1 (model X.prog X.w) X.A (inplaceOp op v u) (EP X ah σ Q) X.xe s
section
variable {X:Cx}{pos:Pos}
def zw(i:Nat):TG:=λv σ H Q=>Q (σ.set i (some v)) H
theorem Hk {i:Nat}{x:Str}(hN:X.N.Nodup)(hi:X.N[i]? =some x)(hx:D4 X.env.scope x)(hf:X.fn x=true\/X.env.scope.names.lookup x=some .local:=by first|exact .inl rfl|exact .inr rfl|assumption):PG X (.Name x pos) (zw i):=by
 intro ah s σ H v u Q I r h;exact TH (qk I hN hi hx r (λs' I'=>⟨_,H,I',h⟩) hf)
def MM:Bi:=λvs σ H Q=>vs=[]/\Q σ H
def Ke(t:TG)(u:Bi):Bi:=λvs σ H Q=> ∃v r,vs=v::r/\t v σ H λσ' H'=>u r σ' H' Q
theorem zV:PGs X [] MM:=by
 intro ah s σ H vs us Q I r h;obtain⟨e,h⟩:=h;subst e;cases r;exact assignInOrder_nil ⟨σ,H,I,h⟩
theorem wT {e:Expr}{es:List Expr}{t:TG}{u:Bi}(h1:PG X e t)(h2:PGs X es u)
 (hs:(Ps (e::es) X.env).map (·.2)=Q2 e X.env::(Ps es X.env).map (·.2):=by rfl):PGs X (e::es) (Ke t u):=by
 intro ah s σ H vs us Q I r h;obtain⟨v,vr,e1,h⟩:=h;subst e1;cases r with
 |cons r rr=>
  rw[hs];refine assignInOrder_cons (bU (h1 ah s σ H _ _ _ I r h) λ_ s1 hq_=>?_);obtain⟨σ1,H1,I1,q1⟩:=hq_;exact h2 ah s1 σ1 H1 _ _ Q I1 rr q1
def My(K:NU)(n:Nat)(t:Bi):TG:=λv σ H Q=> ∃a xs,v=.ref a/\SqT K H a xs/\xs.length=n/\t xs σ H Q
theorem Dw {es:List Expr}{k:Nat}{t:Bi}{n:Nat}(hc:X.calm=true)(h:PGs X es t)
 (hn:(Ps es X.env).length=n:=by rfl) (hst:(Ps es X.env).findIdx? (·.1)=none:=by rfl):PG X (.Tuple es k pos) (My X.K n t):=by
 intro ah s σ H v u Q I r hw;obtain⟨a,xs,e1,hq,hl,hw⟩:=hw;subst e1;cases r;obtain⟨its,rv,ht,hz⟩:=I.tuple hq;refine assign_Tuple_tuple (I.ok.hd hc) ht (by simp[hn,<-hl,rv.length]) hst λh' hx=>?_
 have I1:Inv X ah σ H {s with heap:=h'}:=I.kept (t':=s.toks) λb o e=>hx b o (Oz (N0 e)) e
 exact h ah _ σ H xs _ Q I1 (by simpa using rv) hw
def MG(to ti:TE)(t:Iw):TG:=λv σ H Q=>to σ H λo H1=>ti σ H1 λi H2=>t o i v H2 λH3=>Q σ H3
theorem HU {o i:Expr}{to ti:TE}{t:Iw}(ho:PE X o to)(hi:PE X i ti)(hs:KN X t)
 (ha: ∀v,Q2 (.Subscript o i pos) X.env v=(do
   let ov <-TJ [v] (eval o X.env)
   let iv <-TJ [v,ov] (eval i X.env)
   TL pos
   TJ [v,ov,iv] (setItem ov iv v)
   release [v,ov,iv] []):=by intro _;rfl):PG X (.Subscript o i pos) (MG to ti t):=by
 intro ah s σ H v u Q I r h;rw[ha];refine NE (O5 (bU (ho ah s σ H _ I h) λov s1 hq_=>?_));obtain⟨x,H1,I1,r1,q1⟩:=hq_;refine NE (O5 (bU (hi ah s1 σ H1 _ I1 q1) λiv s2 hq_=>?_));obtain⟨y,H2,I2,r2,q2⟩:=hq_;refine NE (Qi (NE (O5 (bU (hs ah s2 σ H2 x y v ov iv u _ I2 r1 r2 r q2) λ_ s3 hq_=>?_))));obtain⟨H3,I3,q3⟩:=hq_;exact wpAny_release ⟨σ,H3,I3,q3⟩
def Gj(te:TE)(g:TG):TS:=λD σ H=>te σ H λx H1=>g x σ H1 D.nx
theorem EV {tg e:Expr}{te:TE}{g:TG}(he:PE X e te)(hg:PG X tg g)(hs:VE [tg] e pos.line X.env=pure false:=by rfl)(hw:VF [tg] e X.env=pure none:=by rfl)
 (h1:(Ps [tg] X.env).map (·.2)=[Q2 tg X.env]:=by rfl):PS X (.Assign [tg] e pos) (Gj te g):=by
 intro ah s σ H D I h;refine wpAny_Assign_stores (bU (he ah s σ H _ I h) λv s1 ⟨x,H1,I1,r1,q1⟩=>?_) hs hw;rw[h1];exact bU (hg ah s1 σ H1 x v _ I1 r1 q1) λ_ s2 q=>q
theorem uN {i:Nat}{x:Str}{e:Expr}{te:TE}{pos':Pos}(hN:X.N.Nodup)(hi:X.N[i]? =some x)(hx:D4 X.env.scope x)(he:PE X e te)(hs:Q1 e (some (.Name x pos')) pos.line X.env=pure false:=by rfl)(hf:X.fn x=true\/X.env.scope.names.lookup x=some .local:=by first|exact .inl rfl|exact .inr rfl|assumption):
 PS X (.Assign [.Name x pos'] e pos) (Gj te (zw i)):=by
 intro ah s σ H D I h;refine wpAny_Assign_Name (bU (he ah s σ H _ I h) λv s1 ⟨y,H1,I1,r1,q1⟩=>?_) hs;exact qk I1 hN hi hx r1 (λs2 I2=>⟨_,H1,I2,q1⟩) hf
def M5(i:Nat)(te:TE)(ti:LO):TS:=λD σ H=> ∃x,σ[i]? =some (some x)/\te σ H λy H1=>ti x y H1 λz H2=>D.nx (σ.set i (some z)) H2
theorem JW {i:Nat}{x:Str}{e:Expr}{te:TE}{op:Xi}{ti:LO}{pos':Pos}(hN:X.N.Nodup)(hi:X.N[i]? =some x)(hx:D4 X.env.scope x)(he:PE X e te)(ho:Mc X op ti)(hf:X.fn x=true\/X.env.scope.names.lookup x=some .local:=by first|exact .inl rfl|exact .inr rfl|assumption):
 PS X (.AugAssign (.Name x pos') op e pos) (M5 i te ti):=by
 intro ah s σ H D I h;obtain⟨v,e1,h⟩:=h;obtain⟨m,hn,hl⟩:=I.loc;have vis:xG X.env.scope x:=by rcases hx with k|k;exact .inl k;exact .inr (.inl k)
 obtain⟨u,r,l⟩:=hl i x v hi e1 vis;refine wpAny_AugAssign_Name ?_
 have go:N1 (model X.prog X.w) X.A (eval e X.env) (λw s₂=>N1 (model X.prog X.w) X.A (inplaceOp op u w) (λr s₃=>N1 (model X.prog X.w) X.A (Yq X.env x r) (λ_=>SP X ah D .next) X.xe s₃) X.xe s₂) X.xe s:=by
  refine bU (he ah s σ H _ I h) λw s1 hq_=>?_
  obtain⟨y,H1,I1,r1,q1⟩:=hq_;refine bU (ho ah s1 σ H1 v y u w _ I1 r r1 q1) λz s2 hq_=>?_
  obtain⟨zv,H2,I2,r2,q2⟩:=hq_;exact qk I2 hN hi hx r2 (λs3 I3=>⟨_,H2,I3,q2⟩) hf
 rcases l with⟨hk,hm⟩|⟨hk,c,hc,hcell⟩
 ·exact U2 I.ok.kind hk hn hm go
 ·rcases hk with hk|hk
  ·exact Vn I.ok.kind hk hc hcell go
  ·rcases hx with k|k
   ·have:X.env.scope.names.lookup x=some .free:=hk;rw[k] at this;cases this
   ·have:X.env.scope.names.lookup x=some .free:=hk;rw[k] at this;cases this
def M9(f:Int->Int->Int):LO:=λx y H Q=> ∃i j,x=.int i/\y=.int j/\Q (.int (f i j)) H
theorem Jv:Mc X .Add (M9 λi j=>i+j):=by
 intro ah s σ H x y v u Q I r1 r2 h;obtain⟨i,j,e1,e2,q⟩:=h;subst e1;subst e2;obtain⟨t,rfl⟩:=r1;obtain⟨t',rfl⟩:=r2;exact iadd_int ⟨.int _,H,I.tok _,⟨_,rfl⟩,q⟩
end
section
variable {X:Cx}{pos:Pos}
def IS(c:TT)(tb:TS):TS:=λD σ H=> ∃W:Nat->St->Hp->Prop,(∃m,W m σ H)/\ ∀m σ H,W m σ H->
 c σ H λb H1=>if b=true then∃N:St->Hp->Prop,(∀σ' H',N σ' H'-> ∃m',m'<m/\W m' σ' H')/\tb {D with nx:=N,ct:=N,bk:=D.nx} σ H1 else D.nx σ H1
theorem Ep {c:Expr}{body:List Stmt}{tc:TT}{tb:TS}(hp:Wx (model X.prog X.w) X.A X.env X.xe)(hc:PT X c tc)(hb:PSs X body tb):PS X (.While c body [] pos) (IS tc tb):=by
 intro ah s σ H D I h;obtain⟨W,⟨m0,w0⟩,turn⟩:=h;refine wpAny_While (codeAny_whileLoop (λn s'=> ∃σ' H',Inv X ah σ' H' s'/\W n σ' H') ?_ m0 ⟨σ,H,I,w0⟩);rintro n s1 ⟨σ1,H1,I1,w1⟩;refine QL hp (bU (hc ah s1 σ1 H1 _ I1 (turn n σ1 H1 w1)) λb s2 hq_=>?_);obtain⟨H2,I2,q2⟩:=hq_;cases b with
 |true=>
  obtain⟨N,hN,q2⟩:=q2;rw[if_pos rfl];refine QL hp (bU (hb ah s2 σ1 H2 _ I2 q2) λf s3 q3=>?_);cases f with
  |next=>
   obtain⟨σ3,H3,I3,n3⟩:=q3;obtain⟨m',hm,w3⟩:=hN σ3 H3 n3;exact⟨m',hm,σ3,H3,I3,w3⟩
  |cont=>
   obtain⟨σ3,H3,I3,n3⟩:=q3;obtain⟨m',hm,w3⟩:=hN σ3 H3 n3;exact⟨m',hm,σ3,H3,I3,w3⟩
  |brk=>exact q3
  |ret v=>exact q3
 |false=>
  rw[if_neg Ra];exact SV ⟨σ1,H2,I2,q2⟩
end
structure It where
 go:Nat->Hp->Prop
 yld:Nat->Hp->V->Hp->Prop
 stop:Nat->Hp->Prop
def jB(X:Cx)(ah:List (Addr×Obj))(H:Hp)(b:Addr):Prop:=
 H b=none/\b≠X.env.locals/\b∉X.fs/\(b∈X.ex\/X.s₀.heap.objs.size<=b)/\(∀x c,X.env.cells.lookup x=some c->c≠b)/\ ∀p∈X.pn++ah,p.1≠b
theorem Inv.fpOk {X:Cx}{ah:List (Addr×Obj)}{σ:St}{H H':Hp}{s:NH}{b:Addr}(I:Inv X ah σ H s)(hb:s.heap.objs.size<=b)(hn:H' b=none):jB X ah H' b:=by
 refine⟨hn,QQ (NV I.lt hb),I.nofs hb,.inr (OE I.sz hb),λx c e z=>?_,λp hp z=>?_⟩
 ·obtain⟨v,q⟩:=I.cell x c e;exact absurd (NV q.lt (by rw[z];exact hb)) (QV _)
 ·exact absurd (NV (N0 (I.pin p hp).1) (by rw[z];exact hb)) (QV _)
structure Turn(P:OI)(w:OT)(K:NU)(tg:Expr)(J:It)(fp:List Addr)(it:Addr)(tn:Nat->Heap->Prop):Prop where
 mem:it∈fp
 obj: ∀i h,tn i h-> ∀b∈fp,∃o,h.get? b=some o/\ ∀v,o.data≠ .cell v
 keep: ∀i h h',tn i h->(∀b∈fp,∀o,h.get? b=some o->h'.get? b=some o)->tn i h'
 item: ∀(X:Cx),X.prog=P->X.w=w->X.K=K->X.calm=true-> ∀(i:Nat) (ah:List (Addr×Obj)) (s:NH) (σ:St) (H:Hp) (E:NG->NH->Prop),Inv X ah σ H s->(∀b∈fp,jB X ah H b)->tn i s.heap->J.go i H->
  N1 (model P w) X.A (R8 (.ref it)) (λr s1=> ∃u,r=some u/\
   N1 (model P w) X.A (QM tg (.ref it) u) (λ_ s2=> ∃x H',Inv X ah σ H' s2/\RelV x u/\J.yld i H x H'/\tn (i+1) s2.heap/\ ∀b∈fp,H' b=none) E s1) E s
 done: ∀(X:Cx),X.prog=P->X.w=w->X.K=K->X.calm=true-> ∀(i:Nat) (ah:List (Addr×Obj)) (s:NH) (σ:St) (H:Hp) (E:NG->NH->Prop),Inv X ah σ H s->(∀b∈fp,jB X ah H b)->tn i s.heap->J.stop i H->
  N1 (model P w) X.A (R8 (.ref it)) (λr s1=>r=none/\Inv X ah σ H s1) E s
 self: ∀(A:OL) (i:Nat) (s:NH) (Q:NG->NH->Prop) (E:NG->NH->Prop),tn i s.heap->Q (.ref it) s->N1 (model P w) A (U3 (.ref it)) Q E s
abbrev TI:=St->Hp->(It->Hp->Prop)->Prop
def Nb(X:Cx)(ah:List (Addr×Obj))(σ:St)(tg:Expr)(R:It->Hp->Prop)(itv:NG)(s2:NH):Prop:=
 ∃(it:Addr) (fp:List Addr) (tn:Nat->Heap->Prop) (J:It) (H':Hp),itv=.ref it/\Inv X ah σ H' s2/\Turn X.prog X.w X.K tg J fp it tn/\tn 0 s2.heap/\(∀b∈fp,jB X ah H' b)/\R J H'
def PI(X:Cx)(tg iter:Expr)(wi:TI):Prop:=
 ∀(ah:List (Addr×Obj)) (s:NH) (σ:St) (H:Hp) (R:It->Hp->Prop),Inv X ah σ H s->wi σ H R->
  N1 (model X.prog X.w) X.A (eval iter X.env) (λv s1=>N1 (model X.prog X.w) X.A (U3 v) (Nb X ah σ tg R) X.xe s1) X.xe s
theorem CQ {M:ZZ}{A:OL}{E:NG->NH->Prop}{s:NH}{tg:Expr}{it:Addr}{u:NG}{o:Obj}{n:String}{vs:Array NG}{Q:Unit->NH->Prop}(ho:s.heap.get? it=some o)(hc:o.cls=.type n)(hd:o.data=.fields vs)
 (hn:["enumerate","zip","dict_itemiterator","dict_reverseitemiterator","odict_iterator","itertools.zip_longest","itertools.pairwise"].contains n=false) (hQ:Q () s):N1 M A (QM tg (.ref it) u) Q E s:=by
 unfold QM;cases tg<;>first
  |exact NJ hQ
  |(cases u<;>first
     |exact NJ hQ
     |(refine NE (Xj ho ?_)
       rw[hc,hd];show N1 M A (if(["enumerate","zip","dict_itemiterator","dict_reverseitemiterator","odict_iterator","itertools.zip_longest","itertools.pairwise"].contains n&&vs[0]? ==some (R9 _))=true then _ else _) Q E s;rw[if_neg (by intro h;rw[hn,PP] at h;cases h)]
       exact NJ hQ))
def Mt(K:NU)(a:Addr):It:=
 ⟨λi H=> ∃xs x,SqL K H a xs/\xs[i]? =some x,λi H x H'=>H'=H/\ ∀xs,SqL K H a xs->xs[i]? =some x,λi H=> ∃xs,SqL K H a xs/\xs.length<=i⟩
def Mo(K:NU)(a:Addr):It:=
 ⟨λi H=> ∃xs x,SqT K H a xs/\xs[i]? =some x,λi H x H'=>H'=H/\ ∀xs,SqT K H a xs->xs[i]? =some x,λi H=> ∃xs,SqT K H a xs/\xs.length<=i⟩
def LN(lo:Int)(n:Nat):It:=⟨λi _=>i<n,λi H x H'=>H'=H/\x=.int (lo+i),λi _=>n<=i⟩
theorem AX {P:OI}{w:OT}{K:NU}{tg:Expr}(a it:Addr):Turn P w K tg (Mt K a) [it] it (λi h=>h.IsListIter it a i) where
 mem:=by simp
 obj:=λi h st b hb=>by
  have e:b=it:=by simpa using hb
  subst e;obtain⟨o,e,c,d⟩:=st;exact⟨o,e,λv z=>by rw[d] at z;cases z⟩
 keep:=λi h h' st k=>st.at λo e=>k it (by simp) o e
 item:=by
  intro X hP hw hK hc i ah s σ H E I hf st hg;subst hP hw hK;obtain⟨xs,x,hq,hx⟩:=hg;obtain⟨its,rv,p,hz⟩:=I.list hq;obtain⟨u,hu,ru⟩:=rv.get hx;obtain⟨f0,f1,f2,f3,f4,f5⟩:=hf it (by simp);refine Ut st p.isList (x:=u) (by simpa using hu) λh' st' sb=>?_
  have I1:Inv X ah σ H {s with heap:=h'}:=I.turned (t':=s.toks) (λb o hb e=>(sb.2 b hb).trans e) f0 f1 f3 f4 f5;obtain⟨o,e,c,d⟩:=id st';exact⟨u,rfl,CQ (s:={s with heap:=h'}) e c d (by decide) ⟨x,H,I1,ru,⟨rfl,λys hy=>by rw[I.list_inj hy hq];exact hx⟩,st',λb hb=>(hf b hb).1⟩⟩
 done:=by
  intro X hP hw hK hc i ah s σ H E I hf st hg;subst hP hw hK;obtain⟨xs,hq,hx⟩:=hg;obtain⟨its,rv,p,hz⟩:=I.list hq;obtain⟨f0,f1,f2,f3,f4,f5⟩:=hf it (by simp);have hl:=rv.length;exact UQ (I.ok.hd hc) st p.isList (by simp;omega) λh' eb=>⟨rfl,I.turned (t':=s.toks) (λb o hb e=>eb b o hb e) f0 f1 f3 f4 f5⟩
 self:=λ_ _ _ _ _ st h=>wpAny_pyIter_listiter st h
theorem yu {P:OI}{w:OT}{K:NU}{tg:Expr}(a it:Addr):Turn P w K tg (Mo K a) [it] it (λi h=>h.IsTupleIter it a i) where
 mem:=by simp
 obj:=λi h st b hb=>by
  have e:b=it:=by simpa using hb
  subst e;obtain⟨o,e,c,d⟩:=st;exact⟨o,e,λv z=>by rw[d] at z;cases z⟩
 keep:=λi h h' st k=>st.at λo e=>k it (by simp) o e
 item:=by
  intro X hP hw hK hc i ah s σ H E I hf st hg;subst hP hw hK;obtain⟨xs,x,hq,hx⟩:=hg;obtain⟨its,rv,p,hz⟩:=I.tuple hq;obtain⟨u,hu,ru⟩:=rv.get hx;obtain⟨f0,f1,f2,f3,f4,f5⟩:=hf it (by simp);refine wpAny_pyNext_tuple_item st (show s.heap.IsTuple a its.toArray from p) (x:=u) (by simpa using hu) λh' st' sb=>?_
  have I1:Inv X ah σ H {s with heap:=h'}:=I.turned (t':=s.toks) (λb o hb e=>(sb.2 b hb).trans e) f0 f1 f3 f4 f5;obtain⟨o,e,c,d⟩:=id st';exact⟨u,rfl,CQ (s:={s with heap:=h'}) e c d (by decide) ⟨x,H,I1,ru,⟨rfl,λys hy=>by rw[I.tuple_inj hy hq];exact hx⟩,st',λb hb=>(hf b hb).1⟩⟩
 done:=by
  intro X hP hw hK hc i ah s σ H E I hf st hg;subst hP hw hK;obtain⟨xs,hq,hx⟩:=hg;obtain⟨its,rv,p,hz⟩:=I.tuple hq;obtain⟨f0,f1,f2,f3,f4,f5⟩:=hf it (by simp);have hl:=rv.length;exact wpAny_pyNext_tuple_end (I.ok.hd hc) st (show s.heap.IsTuple a its.toArray from p) (by simp;omega) λh' eb=>⟨rfl,I.turned (t':=s.toks) (λb o hb e=>eb b o hb e) f0 f1 f3 f4 f5⟩
 self:=λ_ _ _ _ _ st h=>wpAny_pyIter_tupleiter st h
theorem yO {P:OI}{w:OT}{K:NU}{tg:Expr}(it:Addr)(lo:Int)(n:Nat):Turn P w K tg (LN lo n) [it] it (λi h=>IsRangeIter h it (lo+(i:Nat)*1) ((n:Int) - (i:Nat)) 1) where
 mem:=by simp
 obj:=λi h st b hb=>by
  have e:b=it:=by simpa using hb
  subst e;exact⟨_,st,λv z=>by
   have z':Data.fields _=Data.cell v:=z
   cases z'⟩
 keep:=λi h h' st k=>k it (by simp) _ st
 item:=by
  intro X hP hw hK hc i ah s σ H E I hf st hg;subst hP hw hK;obtain⟨f0,f1,f2,f3,f4,f5⟩:=hf it (by simp);have W:=Walks.range (prog:=X.prog) (w:=X.w) (I.ok.hd hc) it lo 1 n;refine W.item i s _ _ hg st λv h' tk hv st' kk=>?_
  obtain⟨t,rfl⟩:=hv;have I1:Inv X ah σ H {s with heap:=h',toks:=tk}:=I.turned (λb o hb e=>kk b o (by simpa using hb) e) f0 f1 f3 f4 f5;refine⟨_,rfl,CQ (s:={s with heap:=h',toks:=tk}) (n:="range_iterator") st' rfl rfl (by decide) ⟨.int (lo+i),H,I1,⟨t,?_⟩,⟨rfl,rfl⟩,st',λb hb=>(hf b hb).1⟩⟩;rw[Z4]
 done:=by
  intro X hP hw hK hc i ah s σ H E I hf st hg;subst hP hw hK;obtain⟨f0,f1,f2,f3,f4,f5⟩:=hf it (by simp);exact wpAny_pyNext_range_end (I.ok.hd hc) st (by have:n<=i:=hg;omega) λh' eb=>⟨rfl,I.turned (t':=s.toks) (λb o hb e=>eb b o hb e) f0 f1 f3 f4 f5⟩
 self:=λ_ _ _ _ _ st h=>wpAny_pyIter_rangeiter st h
section
variable {X:Cx}{tg:Expr}
def Kc(K:NU)(tl:TE):TI:=λσ H R=>tl σ H λx H1=> ∃a,x=.ref a/\(∃xs,SqL K H1 a xs)/\R (Mt K a) H1
def MZ(K:NU)(tl:TE):TI:=λσ H R=>tl σ H λx H1=> ∃a,x=.ref a/\(∃xs,SqT K H1 a xs)/\R (Mo K a) H1
theorem zc {l:Expr}{tl:TE}(hl:PE X l tl):PI X tg l (Kc X.K tl):=by
 intro ah s σ H R I h;refine bU (hl ah s σ H _ I h) λv s1 hq_=>?_
 obtain⟨x,H1,I1,r1,q1⟩:=hq_;obtain⟨a,e,⟨xs,hq⟩,q⟩:=q1;subst e;cases r1;obtain⟨its,rv,p,hz⟩:=I1.list hq;refine TM p.isList ?_
 refine⟨s1.heap.objs.size,[s1.heap.objs.size],_,_,H1,rfl,I1.kept (t':=s1.toks) λb o e=>NM _ e,AX a _,⟨_,NZ _ rfl,rfl,rfl⟩,λb hb=>?_,q⟩;have e:b=s1.heap.objs.size:=by simpa using hb
 subst e;exact I1.fpOk (NT _) (I1.hok.fresh (NT _))
theorem JE {l:Expr}{tl:TE}(hl:PE X l tl):PI X tg l (MZ X.K tl):=by
 intro ah s σ H R I h;refine bU (hl ah s σ H _ I h) λv s1 hq_=>?_
 obtain⟨x,H1,I1,r1,q1⟩:=hq_;obtain⟨a,e,⟨xs,hq⟩,q⟩:=q1;subst e;cases r1;obtain⟨its,rv,p,hz⟩:=I1.tuple hq;refine RT (show s1.heap.IsTuple a its.toArray from p) ?_
 refine⟨s1.heap.objs.size,[s1.heap.objs.size],_,_,H1,rfl,I1.kept (t':=s1.toks) λb o e=>NM _ e,yu a _,⟨_,NZ _ rfl,rfl,rfl⟩,λb hb=>?_,q⟩;have e:b=s1.heap.objs.size:=by simpa using hb
 subst e;exact I1.fpOk (NT _) (I1.hok.fresh (NT _))
theorem Cq {ah:List (Addr×Obj)}{σ:St}{H:Hp}{s:NH}{R:It->Hp->Prop}{E:NG->NH->Prop}{lo hi:Int}{t u v:Tok}{tk:Nat}(I:Inv X ah σ H s)(h1: -(2^62)<=lo)(h2:lo<2^62)(h3: -(2^62)<=hi)(h4:hi<2^62)
 (q:R (LN lo (hi-lo).toNat) H):N1 (model X.prog X.w) X.A (U3 (.ref s.heap.objs.size)) (Nb X ah σ tg R) E {s with heap:=s.heap.push {cls:=.type "range",data:=.fields #[.int lo t,.int hi u,.int 1 v]},toks:=tk}:=by
 refine wpAny_pyIter_range (IsRange.new ..) (small_one h1 h2 h3 h4) ?_
 have I1:Inv X ah σ H {s with heap:=s.heap.push {cls:=.type "range",data:=.fields #[.int lo t,.int hi u,.int 1 v]},toks:=tk}:=I.kept λb o e=>NM _ e
 refine⟨(s.heap.push {cls:=.type "range",data:=.fields #[.int lo t,.int hi u,.int 1 v]}).objs.size,[(s.heap.push {cls:=.type "range",data:=.fields #[.int lo t,.int hi u,.int 1 v]}).objs.size],_,_,H,rfl,
  I1.kept (t':=tk) λb o e=>NM _ e,yO _ lo (hi-lo).toNat,?_,λb hb=>?_,q⟩
 ·have e1:lo+((0:Nat):Int)*1=lo:=by simp
  have e2:(((hi-lo).toNat:Nat):Int) - ((0:Nat):Int)=RX lo hi 1:=by rw[rangeSize_one];split<;>omega
  show IsRangeIter _ _ (lo+((0:Nat):Int)*1) ((((hi-lo).toNat:Nat):Int) - ((0:Nat):Int)) 1;rw[e1,e2];exact NZ _ rfl
 ·have e:b=(s.heap.push {cls:=.type "range",data:=.fields #[.int lo t,.int hi u,.int 1 v]}).objs.size:=by simpa using hb
  subst e;exact I1.fpOk (NT _) (I1.hok.fresh (NT _))
def Kz(ta:TA):TI:=λσ H R=>ta σ H λvs H1=> ∃j:Int,vs=[.int j]/\ -(2^62)<=j/\j<2^62/\R (LN 0 j.toNat) H1
theorem BS {a:Expr}{ta:TA}{p pos:Pos}(hg:Gl X "range")(hm:X.mg "range"=none)(ha:PA X [a] ta)(hs:N8 [a] X.env=[(false,eval a X.env)]:=by rfl):PI X tg (.Call (.Name "range" p) [a] [] pos) (Kz ta):=by
 intro ah s σ H R I h;refine Call_ (qH I hg hm boot_range (Ru (bU (ha pos ah s σ H _ I h) λus s1 ⟨vs,H1,I1,r1,q1⟩=>?_) hs rfl));obtain⟨j,e,q1,q2,q⟩:=q1;subst e;cases r1 with
 |cons r rr=>
  cases rr;obtain⟨t,rfl⟩:=r;exact call_range_1 (Cq I1 (by omega) (by omega) q1 q2 (by simpa using q))
def MC(wi:TI)(g:TG)(tb:TS):TS:=λD σ H=>wi σ H λJ H1=> ∃W:Nat->Nat->St->Hp->Prop,(∃m,W 0 m σ H1)/\ ∀i m σ H,W i m σ H->
 (J.stop i H/\D.nx σ H)\/(J.go i H/\ ∃N:St->Hp->Prop,(∀σ' H',N σ' H'-> ∃m',m'<m/\W (i+1) m' σ' H')/\ ∀x H',J.yld i H x H'->g x σ H' λσ2 H2=>tb {D with nx:=N,ct:=N,bk:=D.nx} σ2 H2)
def lJ(fp:List Addr)(h:Heap):List (Addr×Obj):=fp.filterMap λb=>(h.get? b).map λo=>(b,o)
theorem da {fp:List Addr}{h:Heap}{b:Addr}{o:Obj}(hb:b∈fp)(e:h.get? b=some o):(b,o)∈lJ fp h:=Tj.mpr ⟨b,hb,by rw[e];rfl⟩
theorem BV {fp:List Addr}{h:Heap}{p:Addr×Obj}(hp:p∈lJ fp h):p.1∈fp/\h.get? p.1=some p.2:=by
 obtain⟨b,hb,e⟩:=Tj.mp hp;cases q:h.get? b with
 |none=>rw[q] at e;cases e
 |some o=>
  rw[q] at e;have e':(b,o)=p:=OS e;subst e';exact⟨hb,q⟩
theorem Inv.pinned {ah:List (Addr×Obj)}{σ:St}{H:Hp}{s:NH}{fp:List Addr}(I:Inv X ah σ H s)(hf: ∀b∈fp,jB X ah H b)(ho: ∀b∈fp,∃o,s.heap.get? b=some o/\ ∀v,o.data≠ .cell v):Inv X (ah++lJ fp s.heap) σ H s:=
 I.pins_of λp hp=>(Pt.mp hp).elim (λz=>I.pin p (Op _ z)) λz=>by
  obtain⟨hb,e⟩:=BV z;obtain⟨f0,f1,f2,_⟩:=hf p.1 hb;obtain⟨o,e',d⟩:=ho p.1 hb;rw[e] at e';cases e';exact⟨e,f0,f1,f2,d⟩
theorem Inv.unpinned {ah pl:List (Addr×Obj)}{σ:St}{H:Hp}{s:NH}(I:Inv X (ah++pl) σ H s):Inv X ah σ H s:=I.pins_of λp hp=>I.pin p (Op _ (PZ _ hp))
theorem Ib {iter:Expr}{body:List Stmt}{wi:TI}{g:TG}{tb:TS}{pos:Pos}(hp:Wx (model X.prog X.w) X.A X.env X.xe)(hc:X.calm=true)(hi:PI X tg iter wi)(hg:PG X tg g)(hb:PSs X body tb)
 (hs: ∀x,O6 iter X.env x=pure x:=by intro _;rfl):PS X (.For tg iter body [] pos) (MC wi g tb):=by
 intro ah s σ H D I h;refine wpAny_For (bU (hi ah s σ H _ I h) λv s1 h1=>bU h1 λitv s2 h2=>?_) hs;obtain⟨it,fp,tn,J,H2,e,I2,T,st2,f2,W,⟨m0,w0⟩,turn⟩:=h2;subst e;have stat: ∀ {H':Hp},(∀b∈fp,H' b=none)-> ∀b∈fp,jB X ah H' b:=λhn b hb=>⟨hn b hb,(f2 b hb).2⟩
 refine codeAny_forLoop_any (λn s'=> ∃i σ' H',Inv X ah σ' H' s'/\tn i s'.heap/\(∀b∈fp,H' b=none)/\W i n σ' H') ?_ m0 ⟨0,σ,H2,I2,st2,λb hb=>(f2 b hb).1,w0⟩;rintro n s3 ⟨i,σ3,H3,I3,st3,fr3,w3⟩;rcases turn i n σ3 H3 w3 with⟨stop,qn⟩|⟨go,N,hN,step⟩
 ·refine QL hp (bU (T.done X rfl rfl rfl hc i ah s3 σ3 H3 X.xe I3 (stat fr3) st3 stop) λr s4 hq_=>?_);obtain⟨hr,I4⟩:=hq_;subst hr;exact SV ⟨σ3,H3,I4,qn⟩
 ·refine QL hp (bU (T.item X rfl rfl rfl hc i ah s3 σ3 H3 X.xe I3 (stat fr3) st3 go) λr s4 hq_=>?_);obtain⟨u,hr,h4⟩:=hq_;subst hr;refine QL hp (bU h4 λ_ s5 hq_=>?_);obtain⟨x,H5,I5,r5,y5,st5,fr5⟩:=hq_;have I5':=I5.pinned (stat fr5) (T.obj _ _ st5);refine QL hp (bU (hg _ s5 σ3 H5 x u _ I5' r5 (step x H5 y5)) λ_ s6 hq_=>?_);obtain⟨σ6,H6,I6,q6⟩:=hq_;refine QL hp (bU (hb _ s6 σ6 H6 _ I6 q6) λf s7 q7=>?_);have U4: ∀ {σ7:St} {H7:Hp},Inv X (ah++lJ fp s5.heap) σ7 H7 s7->N σ7 H7-> ∃m,m<n/\ ∃i σ' H',Inv X ah σ' H' s7/\tn i s7.heap/\(∀b∈fp,H' b=none)/\W i m σ' H':=λ{σ7 H7} I7 n7=>by
   obtain⟨m',hm,w7⟩:=hN σ7 H7 n7;refine⟨m',hm,i+1,σ7,H7,I7.unpinned,T.keep _ _ _ st5 λb hb o e=>(I7.pin (b,o) (Op _ (Op _ (da hb e)))).1,λb hb=>?_,w7⟩;obtain⟨o,e,d⟩:=T.obj _ _ st5 b hb;exact(I7.pin (b,o) (Op _ (Op _ (da hb e)))).2.1
  cases f with
  |next=>obtain⟨σ7,H7,I7,n7⟩:=q7;exact U4 I7 n7
  |cont=>obtain⟨σ7,H7,I7,n7⟩:=q7;exact U4 I7 n7
  |brk=>obtain⟨σ7,H7,I7,q7⟩:=q7;exact⟨σ7,H7,I7.unpinned,q7⟩
  |ret v=>obtain⟨x7,σ7,H7,I7,r7,q7⟩:=q7;exact⟨x7,σ7,H7,I7.unpinned,r7,q7⟩
end
abbrev R2:=V->V->Hp->VK->Prop
def lv(X:Cx)(f:NG->NG->Sem NG)(r:R2):Prop:=
 ∀(ah:List (Addr×Obj)) (s:NH) (σ:St) (H:Hp) (x y:V) (v u:NG) (Q:VK),Inv X ah σ H s->RelV x v->RelV y u->r x y H Q->
  N1 (model X.prog X.w) X.A (f v u) (EP X ah σ Q) X.xe s
def M0(X:Cx)(f:NG->Sem NG)(r:V->Hp->VK->Prop):Prop:=
 ∀(ah:List (Addr×Obj)) (s:NH) (σ:St) (H:Hp) (x:V) (v:NG) (Q:VK),Inv X ah σ H s->RelV x v->r x H Q->
  N1 (model X.prog X.w) X.A (f v) (EP X ah σ Q) X.xe s
def dB(X:Cx)(f:NG)(r:List V->Hp->VK->Prop):Prop:=
 ∀(ah:List (Addr×Obj)) (s:NH) (σ:St) (H:Hp) (xs:List V) (us:List NG) (Q:VK),Inv X ah σ H s->Vals xs us->r xs H Q->
  N1 (model X.prog X.w) X.A (call f us) (EP X ah σ Q) X.xe s
def MN(X:Cx)(r:V->Hp->(Bool->Hp->Prop)->Prop):Prop:=
 ∀(ah:List (Addr×Obj)) (s:NH) (σ:St) (H:Hp) (x:V) (v:NG) (Q:Bool->Hp->Prop),Inv X ah σ H s->RelV x v->r x H Q->
  N1 (model X.prog X.w) X.A (truthy v) (TP X ah σ Q) X.xe s
def J5(r:R2)(ta tb:TE):TE:=λσ H Q=>ta σ H λx H1=>tb σ H1 λy H2=>r x y H2 Q
def Ny(r:V->Hp->VK->Prop)(ta:TE):TE:=λσ H Q=>ta σ H λx H1=>r x H1 Q
def rI(C:Int->Int->Prop)(g:Int->Int->V):R2:=λx y H Q=> ∃i j,x=.int i/\y=.int j/\C i j/\Q (g i j) H
def FZ(g:Int->Int->V):R2:=λx y H Q=> ∃i j,x=.int i/\y=.int j/\Q (g i j) H
def rU(g:Int->V):V->Hp->VK->Prop:=λx H Q=> ∃i,x=.int i/\Q (g i) H
section
variable {X:Cx}{a b c:Expr}{ta tb tc:TE}{pos:Pos}
theorem Jk(ha:PE X a ta)(hb:PE X b tb){ah:List (Addr×Obj)}{s:NH}{σ:St}{H:Hp}{R:V->V->Hp->Prop}(I:Inv X ah σ H s)
 (h:ta σ H λx H1=>tb σ H1 λy H2=>R x y H2) {Q:NG->NH->Prop} {f:NG->NG->Sem NG}
 (hf: ∀v u s2 x y H2,Inv X ah σ H2 s2->RelV x v->RelV y u->R x y H2->N1 (model X.prog X.w) X.A (f v u) Q X.xe s2):
 N1 (model X.prog X.w) X.A (eval a X.env) (λv s₁=>N1 (model X.prog X.w) X.A (eval b X.env) (λu s₂=>N1 (model X.prog X.w) X.A (f v u) Q X.xe s₂) X.xe s₁) X.xe s:=by
 refine bU (ha ah s σ H _ I h) λv s1 hq_=>?_
 obtain⟨x,H1,I1,r1,q1⟩:=hq_;refine bU (hb ah s1 σ H1 _ I1 q1) λu s2 hq_=>?_
 obtain⟨y,H2,I2,r2,q2⟩:=hq_;exact hf v u s2 x y H2 I2 r1 r2 q2
theorem Kb {op:Xi}{r:R2}(ho:lv X (SN op) r)(ha:PE X a ta)(hb:PE X b tb):PE X (.BinOp a op b pos) (J5 r ta tb):=by
 intro ah s σ H Q I h;exact wpAny_BinOp (Jk ha hb I h λv u s2 x y H2 I2 rx ry q=>ho ah s2 σ H2 x y v u Q I2 rx ry q)
theorem K1 {op:UnaryOp}{r:V->Hp->VK->Prop}(ho:M0 X (unaryOp op) r)(ha:PE X a ta):PE X (.UnaryOp op a pos) (Ny r ta):=by
 intro ah s σ H Q I h;exact UnaryOp_ (bU (ha ah s σ H _ I h) λv s1 ⟨x,H1,I1,r1,q1⟩=>ho ah s1 σ H1 x v Q I1 r1 q1)
theorem LR {f:NG->NG->Sem NG}{C:Int->Int->Prop}{g:Int->Int->Int}
 (rule: ∀(i j:Int) (t u:Tok) (s:NH) (Q:NG->NH->Prop) (E:NG->NH->Prop),C i j->Q (.int (g i j) s.toks) {s with toks:=s.toks+1}->N1 (model X.prog X.w) X.A (f (.int i t) (.int j u)) Q E s):
 lv X f (rI C λi j=>.int (g i j)):=by
 intro ah s σ H x y v u Q I rx ry h;obtain⟨i,j,rfl,rfl,hc,q⟩:=h;obtain⟨t,rfl⟩:=rx;obtain⟨t',rfl⟩:=ry;exact rule i j t t' s _ _ hc ⟨.int (g i j),H,I.tok _,⟨_,rfl⟩,q⟩
theorem Kl {f:NG->NG->Sem NG}{g:Int->Int->Int}
 (rule: ∀(i j:Int) (t u:Tok) (s:NH) (Q:NG->NH->Prop) (E:NG->NH->Prop),Q (.int (g i j) s.toks) {s with toks:=s.toks+1}->N1 (model X.prog X.w) X.A (f (.int i t) (.int j u)) Q E s):
 lv X f (FZ λi j=>.int (g i j)):=by
 intro ah s σ H x y v u Q I rx ry h;obtain⟨i,j,rfl,rfl,q⟩:=h;obtain⟨t,rfl⟩:=rx;obtain⟨t',rfl⟩:=ry;exact rule i j t t' s _ _ ⟨.int (g i j),H,I.tok _,⟨_,rfl⟩,q⟩
theorem JX {f:NG->NG->Sem NG}{g:Int->Int->Bool}
 (rule: ∀(i j:Int) (t u:Tok) (s:NH) (Q:NG->NH->Prop) (E:NG->NH->Prop),Q (.bool (g i j)) s->N1 (model X.prog X.w) X.A (f (.int i t) (.int j u)) Q E s):
 lv X f (FZ λi j=>.bl (g i j)):=by
 intro ah s σ H x y v u Q I rx ry h;obtain⟨i,j,rfl,rfl,q⟩:=h;obtain⟨t,rfl⟩:=rx;obtain⟨t',rfl⟩:=ry;exact rule i j t t' s _ _ ⟨.bl (g i j),H,I,rfl,q⟩
def Lq(i j:Int):Prop:=0<=j/\j<=1000000/\i.natAbs<2^64
theorem HX:lv X (SN .Add) (FZ λi j=>.int (i+j)):=Kl λ_ _ _ _ _ _ _ q=>add_int q
theorem Il:lv X (SN .Sub) (FZ λi j=>.int (i-j)):=Kl λ_ _ _ _ _ _ _ q=>sub_int q
theorem Is:lv X (SN .Mod) (rI (λ_ j=>0<j) λi j=>.int (i % j)):=LR λi j _ _ _ _ _ hc q=>by
 have h1:(0:Int)<j:=hc;exact mod_int' (by omega) (by rw[Int.fmod_eq_emod_of_nonneg i (by omega)];exact q)
theorem IN:lv X (SN .Pow) (rI Lq λi j=>.int (i^j.toNat)):=LR λ_ _ _ _ _ _ _ hc q=>pow_int_small hc.1 hc.2.1 hc.2.2 q
theorem Nu {f:NG->Sem NG}{g:Int->Int}
 (rule: ∀(i:Int) (t:Tok) (s:NH) (Q:NG->NH->Prop) (E:NG->NH->Prop),Q (.int (g i) s.toks) {s with toks:=s.toks+1}->N1 (model X.prog X.w) X.A (f (.int i t)) Q E s):
 M0 X f (rU λi=>.int (g i)):=by
 intro ah s σ H x v Q I rx h;obtain⟨i,rfl,q⟩:=h;obtain⟨t,rfl⟩:=rx;exact rule i t s _ _ ⟨.int (g i),H,I.tok _,⟨_,rfl⟩,q⟩
theorem Js:M0 X (unaryOp .USub) (rU λi=>.int (-i)):=Nu λ_ _ _ _ _ q=>neg_int q
end
section
variable {X:Cx}{a b c:Expr}{ta tb tc:TE}{pos:Pos}
theorem wt:lv X (Px .Lt) (FZ λi j=>.bl (decide (i<j))):=JX λ_ _ _ _ _ _ _ q=>lt_int q
theorem Ho:lv X (Px .LtE) (FZ λi j=>.bl (decide (i<=j))):=JX λ_ _ _ _ _ _ _ q=>le_int q
theorem Kh:lv X (Px .GtE) (FZ λi j=>.bl (decide (j<=i))):=JX λ_ _ _ _ _ _ _ q=>ge_int q
theorem cL(b:Expr){op:VD}(h:op≠ .In:=by decide)(h2:op≠ .NotIn:=by decide):QW op b=false:=by
 have e1:(op==CmpOp.In)=false:=by cases op<;>first|rfl|exact absurd rfl h
 have e2:(op==CmpOp.NotIn)=false:=by cases op<;>first|rfl|exact absurd rfl h2
 cases b<;>simp[QW,e1,e2]
theorem Gm {op:VD}{r:R2}(ho:lv X (Px op) r)(ha:PE X a ta)(hb:PE X b tb)(hm:QW op b=false):PE X (.Compare a [op] [b] pos) (J5 r ta tb):=by
 intro ah s σ H Q I h;exact wpAny_Compare1 (Jk ha hb I h λv u s2 x y H2 I2 rx ry q=>ho ah s2 σ H2 x y v u Q I2 rx ry q) hm
def HQ(t:TE):TT:=λσ H Q=>t σ H λx H'=> ∃k,x=.bl k/\Q k H'
theorem GW {op:VD}{r:R2}(ho:lv X (Px op) r)(ha:PE X a ta)(hb:PE X b tb)(hm:QW op b=false):PT X (.Compare a [op] [b] pos) (HQ (J5 r ta tb)):=by
 intro ah s σ H Q I h;refine UP (bU (ha ah s σ H _ I h) λv s1 ⟨x,H1,I1,r1,q1⟩=>bU (hb ah s1 σ H1 _ I1 q1) λu s2 ⟨y,H2,I2,r2,q2⟩=>
  bU (ho ah s2 σ H2 x y v u _ I2 r1 r2 q2) λc s3 ⟨z,H3,I3,r3,k,e,q3⟩=>?_) hm
 subst e;cases r3;exact Pl ⟨H3,I3,q3⟩
def x0(r r':R2)(ta tb tc:TE):TE:=λσ H Q=>ta σ H λx H1=>tb σ H1 λy H2=>r x y H2 λz H3=> ∃k,z=.bl k/\
 (if k=true then tc σ H3 λw' H4=>r' y w' H4 Q else Q (.bl false) H3)
theorem C0 {op op':VD}{r r':R2}(ho:lv X (Px op) r)(ho':lv X (Px op') r')(ha:PE X a ta)(hb:PE X b tb)(hc:PE X c tc)
 (hm:Wy [op,op'] [b,c]=false:=by with_unfolding_all rfl):PE X (.Compare a [op,op'] [b,c] pos) (x0 r r' ta tb tc):=by
 intro ah s σ H Q I h;refine Compare_chain (bU (ha ah s σ H _ I h) λv s1 ⟨x,H1,I1,r1,q1⟩=>chain_link (bU (hb ah s1 σ H1 _ I1 q1) λu s2 ⟨y,H2,I2,r2,q2⟩=>
  bU (ho ah s2 σ H2 x y v u _ I2 r1 r2 q2) λd s3 ⟨z,H3,I3,r3,k,e,q3⟩=>?_)) hm
 subst e;cases r3;refine Pl ?_
 cases k with
 |false=>exact ite_ff ⟨.bl false,H3,I3,rfl,q3⟩
 |true=>exact ite_tt (chain_last (bU (hc ah s3 σ H3 _ I3 q3) λw' s4 ⟨z',H4,I4,r4,q4⟩=>ho' ah s4 σ H4 y z' u w' Q I4 r2 r4 q4))
theorem Dk {op op':VD}{r r':R2}(ho:lv X (Px op) r)(ho':lv X (Px op') r')(ha:PE X a ta)(hb:PE X b tb)(hc:PE X c tc)
 (hm:Wy [op,op'] [b,c]=false:=by with_unfolding_all rfl):PT X (.Compare a [op,op'] [b,c] pos) (HQ (x0 r r' ta tb tc)):=by
 intro ah s σ H Q I h;refine isTrue_chain (bU (ha ah s σ H _ I h) λv s1 ⟨x,H1,I1,r1,q1⟩=>test_link (bU (hb ah s1 σ H1 _ I1 q1) λu s2 ⟨y,H2,I2,r2,q2⟩=>
  bU (ho ah s2 σ H2 x y v u _ I2 r1 r2 q2) λd s3 ⟨z,H3,I3,r3,k,e,q3⟩=>?_)) hm
 subst e;cases r3;refine Pl ?_
 cases k with
 |false=>
  obtain⟨k',e',q'⟩:=q3;cases e';exact ite_ff ⟨H3,I3,q'⟩
 |true=>
  refine ite_tt (test_last (bU (hc ah s3 σ H3 _ I3 q3) λw' s4 ⟨z',H4,I4,r4,q4⟩=>bU (ho' ah s4 σ H4 y z' u w' _ I4 r2 r4 q4) λd' s5 hq_=>?_));obtain⟨z2,H5,I5,r5,k2,e2,q5⟩:=hq_;subst e2;cases r5;exact Pl ⟨H5,I5,q5⟩
def IP(K:NU)(x:V)(H:Hp)(k:Bool):Prop:=
 match x with
 | .non=>k=false
 | .bl b=>k=b
 | .int i=>k=(i !=0)
 | .str y=>y.length<=Oi/\k=((y.length:Int) !=0)
 | .byt y=>y.size<=Oi/\k=((y.size:Int) !=0)
 | .ref p=>(∃xs,SqL K H p xs/\k= !xs.isEmpty)\/(∃xs,SqT K H p xs/\k= !xs.isEmpty)\/ ∃kvs,H p=some (.dK kvs)/\k= !kvs.isEmpty
 |_=>False
theorem yf {κ:Type}{kvs:List (κ×V)}{vs:List (κ×NG)}(r:KV kvs vs):(!vs.isEmpty)= !kvs.isEmpty:=by
 cases r<;>rfl
theorem pS {xs:List V}{its:List NG}(r:Vals xs its):(!its.toArray.isEmpty)= !xs.isEmpty:=by
 cases r<;>simp
theorem l6:(Oi:Nat)<2^63:=by rw[PB];decide
theorem Ju:MN X (λx H Q=> ∃k,IP X.K x H k/\Q k H):=by
 intro ah s σ H x v Q I rx h;obtain⟨k,e,q⟩:=h;have hl:=l6;have hs:Oi=16777216:=PB;cases x with
 |non=>
  cases rx;have e':k=false:=e;subst e';exact truthy_none ⟨H,I,q⟩
 |bl b=>
  cases rx;have e':k=b:=e;subst e';exact Pl ⟨H,I,q⟩
 |int i=>
  obtain⟨t,rfl⟩:=rx;have e':k=(i !=0):=e;subst e';exact PySem.P.truthy_int ⟨H,I,q⟩
 |str y=>
  obtain⟨t,rfl⟩:=rx;obtain⟨hy,e'⟩:y.length<=Oi/\k=((y.length:Int) !=0):=e;subst e';exact PySem.P.truthy_str (by omega) ⟨H,I.tok _,q⟩
 |byt y=>
  obtain⟨t,rfl⟩:=rx;obtain⟨hy,e'⟩:y.size<=Oi/\k=((y.size:Int) !=0):=e;subst e';exact W.truthy_bytes (by omega) ⟨H,I.tok _,q⟩
 |ref p=>
  cases rx;have e':(∃xs,SqL X.K H p xs/\k= !xs.isEmpty)\/(∃xs,SqT X.K H p xs/\k= !xs.isEmpty)\/ ∃kvs,H p=some (.dK kvs)/\k= !kvs.isEmpty:=e
  rcases e' with⟨xs,hx,e'⟩|⟨xs,hx,e'⟩|⟨kvs,hx,e'⟩
  ·subst e';obtain⟨its,r,pl,hz⟩:=I.list hx;have hlen:=r.length;exact wpAny_truthy_list pl.isList (by simp only[N9];omega) ⟨H,I.tok _,by rw[pS r];exact q⟩
  ·subst e';obtain⟨its,r,pl,hz⟩:=I.tuple hx;have hlen:=r.length;exact truthy_tuple pl (by simp only[N9];omega) ⟨H,I.tok _,by rw[pS r];exact q⟩
  ·subst e';obtain⟨hz,hS,vs,r,m⟩:kvs.length<=Oi/\(p==Xg)=false/\ ∃vs,KV kvs vs/\s.heap.DictOf (uY X.prog X.w) p vs:=I.hok p _ hx
   have hlen:kvs.length=vs.length:=RH r;exact wpAny_truthy_dict hS m (by omega) ⟨H,I.tok _,by rw[yf r];exact q⟩
 |_=>exact(show False from e).elim
theorem Ez(ha:PE X a ta)(he: ∀whole,isTrue a X.env whole=(do let v <-whole;TL a.pos;TJ [v] (truthy v))):
 PT X a (λσ H Q=>ta σ H λx H'=> ∃k,IP X.K x H' k/\Q k H'):=by
 intro ah s σ H Q I h;exact isTrue_plain (bU (ha ah s σ H _ I h) λv s1 ⟨x,H1,I1,r1,q1⟩=>Ju ah s1 σ H1 x v Q I1 r1 q1) (he _)
theorem jN {x:V}{us:List NG}(r:Vals [x] us): ∃u,us=[u]/\RelV x u:=by
 cases r with
 |cons r1 r2=>cases r2;exact⟨_,rfl,r1⟩
theorem HA {x y:V}{us:List NG}(r:Vals [x,y] us): ∃u w',us=[u,w']/\RelV x u/\RelV y w':=by
 cases r with
 |cons r1 r2=>
  cases r2 with
  |cons r3 r4=>cases r4;exact⟨_,_,rfl,r1,r3⟩
theorem Ee:dB X (.builtin "abs") (λxs H Q=> ∃i,xs=[.int i]/\Q (.int (if i<0 then -i else i)) H):=by
 intro ah s σ H xs us Q I r h;obtain⟨i,rfl,q⟩:=h;obtain⟨u,rfl,t,rfl⟩:=jN r;exact call_abs_int λu tk=>⟨.int (if i<0 then -i else i),H,I.tok _,⟨_,rfl⟩,q⟩
theorem AY(hc:X.calm=true):dB X (.builtin "max") (λxs H Q=> ∃i j,xs=[.int i,.int j]/\Q (.int (if j>i then j else i)) H):=by
 intro ah s σ H xs us Q I r h;obtain⟨i,j,rfl,q⟩:=h;obtain⟨u,w',rfl,⟨t,rfl⟩,⟨t',rfl⟩⟩:=HA r;refine max_two_ints (I.ok.hd hc) λh' tk k=>⟨_,H,I.kept k,?_,q⟩
 by_cases hj:j>i
 ·rw[if_pos hj,if_pos hj];exact⟨_,rfl⟩
 ·rw[if_neg hj,if_neg hj];exact⟨_,rfl⟩
theorem r8(hc:X.calm=true):dB X (.builtin "min") (λxs H Q=> ∃i j,xs=[.int i,.int j]/\Q (.int (if j<i then j else i)) H):=by
 intro ah s σ H xs us Q I r h;obtain⟨i,j,rfl,q⟩:=h;obtain⟨u,w',rfl,⟨t,rfl⟩,⟨t',rfl⟩⟩:=HA r;refine min_two_ints (I.ok.hd hc) λh' tk k=>⟨_,H,I.kept k,?_,q⟩
 by_cases hj:j<i
 ·rw[if_pos hj,if_pos hj];exact⟨_,rfl⟩
 ·rw[if_neg hj,if_neg hj];exact⟨_,rfl⟩
end
structure Room(k:Nat)(A:OL):Prop where
 hd:A.handled=none
 dp:A.depth+3*k+5<Xl
 un:A.units+16*k+200<PY
theorem Room.mono {j k:Nat}{A:OL}(r:Room k A)(h:j<=k):Room j A:=⟨r.hd,by have:=r.dp;omega,by have:=r.un;omega⟩
theorem Room.deeper {k:Nat}{A:OL}(r:Room (k+1) A)(env:Env):Room k (A.deeper env):=
 ⟨r.hd,by have:=r.dp;show A.depth+1+3*k+5<_;omega,by have:=r.un;show A.units+3+16*k+200<_;omega⟩
theorem Room.depth {k:Nat}{A:OL}(r:Room k A):A.depth<recursionLimit:=by have:=r.dp;omega
theorem Room.units {k:Nat}{A:OL}(r:Room k A):A.units+64<cLine:=by have:=r.un;omega
def Lo:TA:=λ_ H Q=>Q [] H
def Lh(ta:TE)(tr:TA):TA:=λσ H Q=>ta σ H λx H1=>tr σ H1 λxs H2=>Q (x::xs) H2
section
variable {X:Cx}{e:Expr}{es:List Expr}{te:TE}{t:TA}{pos:Pos}
theorem iU:PA X [] Lo:=λ_ _ _ _ H Q I h=>Calls.spliced_nil ⟨[],H,I,.nil,h⟩
theorem eQ(ha:PE X e te)(hr:PA X es t)(hs:N8 (e::es) X.env=(false,eval e X.env)::N8 es X.env:=by rfl):PA X (e::es) (Lh te t):=by
 intro pos ah s σ H Q I h;rw[hs];show N1 _ _ (spliced ((false,eval e X.env)::Ql pos (N8 es X.env))) _ _ s;refine Calls.spliced_cons (bU (ha ah s σ H _ I h) λu s1 hq_=>?_);obtain⟨x,H1,I1,r1,q1⟩:=hq_;exact bU (hr pos ah s1 σ H1 _ I1 q1) λus s2 ⟨xs,H2,I2,r2,q2⟩=>⟨x::xs,H2,I2,.cons r1 r2,q2⟩
def Ma(t:TA):TE:=λσ H Q=>t σ H λxs H1=>xs.length<=Oi/\ ∀p,H1 p=none->Q (.ref p) (cm H1 p (.tup xs))
def Mf(t:TA):TE:=λσ H Q=>t σ H λxs H1=>xs.length<=Oi/\ ∀p,H1 p=none->Q (.ref p) (cm H1 p (.lst xs))
theorem IG {x1}(h:PA X es t):PE X (.Tuple es x1 pos) (Ma t):=by
 intro ah s σ H Q I hq;refine wpAny_Tuple_spliced (bU (h pos ah s σ H _ I hq) λus s1 ⟨xs,H1,I1,r,z,q⟩=>⟨by rw[<-r.length];exact z,?_⟩);have hf:H1 s1.heap.objs.size=none:=I1.hok.fresh (NT _);refine⟨.ref s1.heap.objs.size,cm H1 s1.heap.objs.size (.tup xs),I1.laid (t':=s1.toks) (λb u e=>NM _ e) (NT _) ?_,rfl,q _ hf⟩;exact⟨z,us,r,⟨_,NZ _ rfl,rfl,_,rfl⟩,_,NZ _ rfl,rfl⟩
theorem Jt(h:PA X es t):PE X (.List es pos) (Mf t):=by
 intro ah s σ H Q I hq;refine wpAny_List_spliced (bU (h pos ah s σ H _ I hq) λus s1 ⟨xs,H1,I1,r,z,q⟩=>⟨by rw[<-r.length];exact z,?_⟩);have hf:H1 s1.heap.objs.size=none:=I1.hok.fresh (NT _);refine⟨.ref s1.heap.objs.size,cm H1 s1.heap.objs.size (.lst xs),I1.laid (t':=s1.toks) (λb u e=>NM _ e) (NT _) ?_,rfl,q _ hf⟩;exact⟨z,us,0,r,NZ _ rfl⟩
end
abbrev Sp:=List V->Hp->VK->XK->Prop
abbrev CT:=List Env->Hp->NH->XK->NG->NH->Prop
structure Env0(P:OI)(w:OT)(K:NU)(mg:Str->Option NG)(base:Heap)(A:OL)(outer:List Env)(s:NH)(H:Hp):Prop where
 frames:A.frames=some outer
 mod:Mod K mg base
 bs: ∀b o,base.get? b=some o->s.heap.get? b=some o/\H b=none
 bsz:base.objs.size<=s.heap.objs.size
 funs:s.heap.FunFrames base outer
 frf: ∀b∈frs outer,H b=none
 hok:HOk P w H s.heap
 bare:R7 s.gens
def CE(outer:List Env)(P:OI)(w:OT)(H:Hp)(s:NH)(Q:VK)(u:NG)(s':NH):Prop:=
 ∃v H',s'.os=s.os/\R7 s'.gens/\Un (frs outer) [] H H' s.heap s'.heap/\HOk P w H' s'.heap/\RelV v u/\Q v H'
def CR(CX:CT)(outer:List Env)(P:OI)(w:OT)(H:Hp)(s:NH)(Q:VK)(E:XK)(r:T3)(s':NH):Prop:=
 match r with
 | .ok (.ret u)=>CE outer P w H s Q u s'
 | .ok _=>False
 | .error e=>CX outer H s E e s'
structure FnOk(P:OI)(w:OT)(K:NU)(mg:Str->Option NG)(base:Heap)(CX:CT)(k:Nat)(f:Addr)(fd:QC)(ps:List Str)(sp:Sp):Prop where
 len: ∀vs H Q E,sp vs H Q E->vs.length=ps.length
 run: ∀(A:OL) (outer:List Env) (s:NH) (H:Hp) (args:Args) (us:List NG) (vs:List V) (Q:VK) (E:XK),Room k A->Env0 P w K mg base A outer s H->V5 s fd args (ps.zip us)->Vals vs us->sp vs H Q E->
  Qp (model P w) A (.call (.ref f) args) (CR CX outer P w H s Q E) s
theorem FnOk.imp {P:OI}{w:OT}{K:NU}{mg:Str->Option NG}{base:Heap}{CX:CT}{k:Nat}{f:Addr}{fd:QC}{ps:List Str}{sp sp':Sp}(F:FnOk P w K mg base CX k f fd ps sp)
 (h: ∀vs H Q E,sp' vs H Q E->sp vs H Q E):FnOk P w K mg base CX k f fd ps sp':=
 ⟨λvs H Q E q=>F.len vs H Q E (h _ _ _ _ q),λA outer s H args us vs Q E hr he hb hv hs=>F.run A outer s H args us vs Q E hr he hb hv (h _ _ _ _ hs)⟩
section
variable {X:Cx}{ah:List (Addr×Obj)}{σ:St}{H:Hp}{s s':NH}
theorem Inv.env0(I:Inv X ah σ H s):Env0 X.prog X.w X.K X.mg X.base X.A X.stack s H:=
 ⟨I.ok.frames,I.ok.mod,I.bs,OE I.ok.bsz I.sz,I.stack,I.stkFree,I.hok,I.bare⟩
theorem Inv.after {Q:VK}{u:NG}(I:Inv X ah σ H s)(h:CE X.stack X.prog X.w H s Q u s'):EP X ah σ Q u s':=by
 obtain⟨v,H',os,bare,un,hok,r,q⟩:=h;obtain⟨hh,g,d,t,os'⟩:=s';obtain rfl:os'=s.os:=os;exact⟨v,H',I.call (h':=hh) (g':=g) (d':=d) (t':=t) (ch:=[]) un hok bare (λb z=>absurd z (by simp)),r,q⟩
end
def K0(sp:Sp)(dvs:List V)(E:XK)(t:TA):TE:=λσ H Q=>t σ H λvs H1=>sp (vs++dvs) H1 Q E
def Binds(K:NU)(fd:QC)(ps:List Str)(ds:List NG):Prop:=
 ∀(s:NH) (us:List NG),K.In s.heap->(us++ds).length=ps.length->V5 s fd ⟨us,[]⟩ (ps.zip (us++ds))
theorem Binds.all {K:NU}{fd:QC}{ps:List Str}(h: ∀us:List NG,us.length=ps.length->Z5 fd ⟨us,[]⟩=pure (ps.zip us)):Binds K fd ps []:=λs us _ hl=>by
 rw[O2] at hl⊢;exact .of_eq (h us hl)
def xt(CX:CT)(X:Cx)(E:XK):Prop:= ∀(ah:List (Addr×Obj)) (σ:St) (H:Hp) (s:NH) (e:NG) (s':NH),Inv X ah σ H s->CX X.stack H s E e s'->X.xe e s'
section
variable {X:Cx}{CX:CT}{k:Nat}{f C:Addr}{fd:QC}{ps:List Str}{sp:Sp}{dvs:List V}{ds:List NG}{E:XK}{x m:Str}{p pos apos:Pos}{e o:Expr}{es:List Expr}{ta:TE}{t:TA}
theorem JV {ah:List (Addr×Obj)}{σ:St}{H:Hp}{s:NH}{Q:VK}{us:List NG}{vs:List V}(F:FnOk X.prog X.w X.K X.mg X.base CX k f fd ps sp)(hr:Room k X.A)(hb:Binds X.K fd ps ds)(hd:Vals dvs ds)(hx:xt CX X E)
 (I:Inv X ah σ H s) (r:Vals vs us) (h:sp (vs++dvs) H Q E):N1 (model X.prog X.w) X.A (call (.ref f) us) (EP X ah σ Q) X.xe s:=by
 have r2:Vals (vs++dvs) (us++ds):=r.append hd;have hl:(us++ds).length=ps.length:=by rw[<-r2.length];exact F.len _ _ _ _ h
 refine wpAny_call (Rb (F.run X.A X.stack s H ⟨us,[]⟩ (us++ds) (vs++dvs) Q E hr I.env0 (hb s us I.kIn hl) r2 h) λr s' hq=>?_);cases r with
 |error e=>exact hx ah σ H s e s' I hq
 |ok fl=>
  cases fl with
  |ret u=>exact I.after hq
  |next=>exact False.elim hq
  |brk=>exact False.elim hq
  |cont=>exact False.elim hq
theorem Ae(F:FnOk X.prog X.w X.K X.mg X.base CX k f fd ps sp)(hr:Room k X.A)(hg:Gl X x)(hm:X.mg x=some (.ref f))(hk:Tn X.K (.ref f)=true)(hb:Binds X.K fd ps ds)(hd:Vals dvs ds)(hx:xt CX X E)
 (ha:PA X (e::es) t) (hdb:(x==("__debug__":Str))=false:=by decide) (he:N8 (e::es) X.env=(false,eval e X.env)::N8 es X.env:=by rfl) (hpl:(Ql pos (N8 es X.env)).any (·.1)=false:=by rfl):
 PE X (.Call (.Name x p) (e::es) [] pos) (K0 sp dvs E t):=by
 intro ah s σ H Q I h;refine RU (Hd I hg hm ?_ hdb);refine W.callWith_K (h₀:=X.base) I.ok.mod.kin hk (bU (ha pos ah s σ H _ I h) λus s1 ⟨vs,H1,I1,r,q⟩=>⟨I1.kIn,?_⟩) he hpl;exact JV F hr hb hd hx I1 r q
end
structure FnScope(N P:List Str)(sc:Qr):Prop where
 kind:sc.kind=.function
 co:sc.isCoroutine=false
 gen:sc.isGenerator=false
 nd:N.Nodup
 pre:N.take P.length=P
 par: ∀x∈P,sc.names.lookup x=some .local\/sc.names.lookup x=some .cell
 nofree: ∀y∈sc.names,y.2≠ .free
theorem rZ {kindOf:Str->Option Qs}{x:Str}: ∀ {binds:List (Str×NG)} {m:Str->Option NG},(∀v,(x,v)∉binds)->Xm kindOf binds m x=m x
 | [],_,_=>rfl
 |(n,v)::r,m,h=>by
  unfold Xm;rw[rZ λw hw=>h w (N3 _ hw)];split
  ·have:x≠n:=by rintro rfl;exact h v Oe
   simp[this]
  ·rfl
theorem sV {kindOf:Str->Option Qs}{x:Str}: ∀ {binds:List (Str×NG)} {m:Str->Option NG},(∀v,(x,v)∉binds)->Xn kindOf binds m x=m x
 | [],_,_=>rfl
 |(n,v)::r,m,h=>by
  unfold Xn;rw[sV λw hw=>h w (N3 _ hw)];split
  ·rfl
  ·have:x≠n:=by rintro rfl;exact h v Oe
   simp[this]
theorem sy {kindOf:Str->Option Qs}{x:Str}{v:NG}: ∀ {P:List Str} {vs:List NG} {i:Nat} {m:Str->Option NG},P.Nodup->P[i]? =some x->vs[i]? =some v->kindOf x=some .local->
 Xm kindOf (P.zip vs) m x=some v
 | [],_,_,_,_,h,_,_=>by simp at h
 |_::_,[],_,_,_,_,h,_=>by simp at h
 |p::P,w::vs,0,m,nd,h1,h2,hk=>by
  simp at h1 h2;subst h1;subst h2;show Xm kindOf ((p,w)::P.zip vs) m p=_;unfold Xm;rw[rZ λv hv=>(PQ.mp nd).1 (UJ hv).1,if_pos hk];simp
 |p::P,w::vs,i+1,m,nd,h1,h2,hk=>by
  show Xm kindOf ((p,w)::P.zip vs) m x=_;unfold Xm;exact sy (i:=i) (PQ.mp nd).2 (by simpa using h1) (by simpa using h2) hk
theorem sU {kindOf:Str->Option Qs}{x:Str}{v:NG}: ∀ {P:List Str} {vs:List NG} {i:Nat} {m:Str->Option NG},P.Nodup->P[i]? =some x->vs[i]? =some v->kindOf x≠some .local->
 Xn kindOf (P.zip vs) m x=some v
 | [],_,_,_,_,h,_,_=>by simp at h
 |_::_,[],_,_,_,_,h,_=>by simp at h
 |p::P,w::vs,0,m,nd,h1,h2,hk=>by
  simp at h1 h2;subst h1;subst h2;show Xn kindOf ((p,w)::P.zip vs) m p=_;unfold Xn;rw[sV λv hv=>(PQ.mp nd).1 (UJ hv).1,if_neg hk];simp
 |p::P,w::vs,i+1,m,nd,h1,h2,hk=>by
  show Xn kindOf ((p,w)::P.zip vs) m x=_;unfold Xn;exact sU (i:=i) (PQ.mp nd).2 (by simpa using h1) (by simpa using h2) hk
def start(N:List Str)(vs:List V):St:=vs.map some++NR (N.length-vs.length) none
def rM(CX:CT)(P:OI)(w:OT)(K:NU)(mg:Str->Option NG)(base:Heap)(N:List Str)(qual:Str)(scope:Qr)(f:Addr)(cd:NG)(A:OL)(outer:List Env)(s:NH)(H:Hp)(E:XK):Cx where
 prog:=P
 w:=w
 K:=K
 mg:=mg
 base:=base
 A:=A.deeper (SW qual scope s.heap.objs.size f cd)
 N:=N
 s₀:=s
 H₀:=H
 env:=SW qual scope s.heap.objs.size f cd
 outer:=outer
 stack:=SW qual scope s.heap.objs.size f cd::outer
 ex:=[]
 calm:=true
 fn:=λ_=>true
 pn:=[]
 xe:=λe s'=>N1 (model P w) (A.deeper (SW qual scope s.heap.objs.size f cd)) (leaving (SW qual scope s.heap.objs.size f cd) e) (λ_ s''=>CX outer H s E e s'') (λe' s''=>CX outer H s E e' s'') s'
theorem v6 {sc:Qr}{n:Nat}{x:Str}(h:sc.names.lookup x=some .cell): ∃c,(Qa n sc.names []).lookup x=some c:=by
 have q:=Wz sc.names n [] (.inl h);exact Option.isSome_iff_exists.mp q
theorem BY {CX:CT}{P:OI}{w:OT}{K:NU}{mg:Str->Option NG}{base:Heap}{N ps:List Str}{qual:Str}{scope:Qr}{f:Addr}{cd:NG}{A:OL}{outer:List Env}{s s1:NH}{H:Hp}{E:XK}{us:List NG}{vs:List V}
 (S:FnScope N ps scope) (hd:A.handled=none) (e0:Env0 P w K mg base A outer s H) (hl:vs.length=ps.length) (r:Vals vs us)
 (x:InCallC s s.heap.objs.size (Xm (SW qual scope s.heap.objs.size f cd).kindOf (ps.zip us) λ_=>none) (Qa (s.heap.objs.size+1) scope.names []) (Xn (SW qual scope s.heap.objs.size f cd).kindOf (ps.zip us) λ_=>none) s1):
 Inv (rM CX P w K mg base N qual scope f cd A outer s H E) [] (start N vs) H s1:=by
 have hpl:ps.length<=N.length:=by have:=congrArg Rx S.pre;rw[Qy] at this;omega
 obtain⟨h1,tk,rfl,hk⟩:=x.done;have noA: ∀b:Addr,b∉(rM CX P w K mg base N qual scope f cd A outer s H E).ex:=λb z=>absurd (show b∈([]:List Addr) from z) (by simp)
 refine⟨⟨e0.mod,S.kind,rfl,rfl,NT _,λy z c h1 h2=>?_,λy hy=>?_,λy c _ h=>?_,λ_=>hd,Around.frames_deeper e0.frames,.inr ⟨rfl,rfl⟩,λb z=>absurd z (noA b),e0.bs,e0.bsz,λb _ _=>noA b,λb z=>absurd z (noA b),e0.funs,e0.frf⟩,
  rfl,e0.bare,Un.kept hk,⟨_,x.toInCall.ns,λi y v h1 h2 h3=>?_⟩,λy c h=>⟨_,x.cell y c h⟩,e0.hok.fresh (NT _),λy c h=>?_,λp hp=>absurd (show p∈([]:List (Addr×Obj)) from hp) (by simp),e0.hok.kept hk,?_⟩
 ·exact name_of_addr x.apart (OV h1) (OV h2)
 ·have hy:scope.names.lookup y=some .cell\/scope.names.lookup y=some .free:=hy;rcases hy with hy|hy
  ·exact v6 hy
  ·exact absurd rfl (S.nofree _ (OV hy))
 ·exact Q9 (x.above y c (OV h))
 ·have hi:i<vs.length:=by
   unfold start at h2
   by_cases hi:i<vs.length
   ·exact hi
   ·rw[Ox (by simpa using hi)] at h2;rw[OZ] at h2;split at h2<;>cases h2
  have ha:vs[i]? =some v:=by
   unfold start at h2;rw[OA (by simpa using hi),OH] at h2;cases e:vs[i]? with
   |none=>rw[e] at h2;cases h2
   |some a=>rw[e] at h2;cases h2;rfl
  obtain⟨u,hu,rv⟩:=r.get ha;have hp:ps[i]? =some y:=by
   rw[<-S.pre,T4 (by omega)];exact h1
  have ndP:ps.Nodup:=by rw[<-S.pre];exact S.nd.sublist (R6 _ _)
  refine⟨u,rv,?_⟩;rcases S.par y (OF hp) with k|k
  ·exact .inl ⟨k,sy ndP hp hu k⟩
  ·obtain⟨c,e⟩:=v6 (n:=s.heap.objs.size+1) k;refine .inr ⟨.inl k,c,e,?_⟩;have q:=x.cell y c e;rw[sU ndP hp hu (by show scope.names.lookup y≠_;rw[k];decide)] at q;exact q
 ·exact e0.hok.fresh (Q9 (x.above y c (OV h)))
 ·unfold start;show _=N.length;rw[Of,NK,Ss];omega
theorem Kg {CX:CT}{P:OI}{w:OT}{K:NU}{mg:Str->Option NG}{base:Heap}{k:Nat}{f:Addr}{name qual:Str}{params:Arguments}{body:List Stmt}{scope:Qr}{dV kV doc pm cdv ct oc:NG}{an od:Option Addr}
 {osl:Array (Option NG)} {N ps:List Str} {sp:Sp} (lk:K.lookup f=some ⟨oc,od,.func (Uu name qual params body scope dV kV doc pm an cdv ct),osl⟩) (hcd:V6 K cdv qual=true) (S:FnScope N ps scope)
 (len: ∀vs H Q E,sp vs H Q E->vs.length=ps.length)
 (hbody: ∀(A:OL) (outer:List Env) (s:NH) (H:Hp) (vs:List V) (Q:VK) (E:XK),Room k (A.deeper (SW qual scope s.heap.objs.size f cdv))->sp vs H Q E->
   ∃t,PSs (rM CX P w K mg base N qual scope f cdv A outer s H E) body t/\t {nx:=λ_ H'=>Q .non H',rt:=Q} (start N vs) H):
 FnOk P w K mg base CX (k+1) f (Uu name qual params body scope dV kV doc pm an cdv ct) ps sp:=by
 refine⟨len,λA outer s H args us vs Q E hr e0 hb r hsp=>?_⟩;have hl:=len _ _ _ _ hsp;have KX:K.In s.heap:=e0.mod.kin.keeps λb o e=>(e0.bs b o e).1
 have lim:s.heap.NoLimit:=e0.mod.nolimit.keeps λb o e=>(e0.bs b o e).1
 have hkind: ∀y∈ps.zip us,scope.names.lookup y.1=some .local\/(scope.names.lookup y.1=some .cell/\((Qa (s.heap.objs.size+1) scope.names []).lookup y.1).isSome=true):=λ⟨n,v⟩ hy=>by
  rcases S.par n (UJ hy).1 with q|q
  ·exact .inl q
  ·exact .inr ⟨q,Wz _ _ _ (.inl q)⟩
 refine codeAny_call_function hr.depth (KX _ _ lk) rfl S.co S.gen rfl (W.codeRec_of KX hcd) (hb _ _ _ _ ?_);refine wpAny_newFunctionEnv_cells S.kind hkind λenv he s1 x=>?_
 subst he;refine⟨lim.keeps x.toInCall.keep,codeAny_func ?_⟩;obtain⟨t,ht,hq⟩:=hbody A outer s H vs Q E (hr.deeper _) hsp;have I:Inv (rM CX P w K mg base N qual scope f cdv A outer s H E) [] (start N vs) H s1:=BY S hr.hd e0 hl r x;refine OM (ht [] s1 (start N vs) H _ I hq) (λfl s' hs=>?_) λe s' hs=>hs
 have fin: ∀ {σ':St} {H':Hp} {v:V} {u:NG},Inv (rM CX P w K mg base N qual scope f cdv A outer s H E) [] σ' H' s'->RelV v u->Q v H'->CE outer P w H s Q u s':=
  λ{σ' H' v u} J rv q=>⟨v,H',J.os,J.bare,J.base,J.hok,rv,q⟩
 cases fl with
 |ret u=>
  obtain⟨v,σ',H',J,rv,q⟩:=hs;exact fin J rv q
 |next=>
  obtain⟨σ',H',J,q⟩:=hs;exact fin (v:=V.non) (u:=OP) J rfl q
 |brk=>
  obtain⟨_,_,_,q⟩:=hs;exact False.elim q
 |cont=>
  obtain⟨_,_,_,q⟩:=hs;exact False.elim q
section
variable {X:Cx}{x:Str}{p pos:Pos}{e:Expr}{es:List Expr}{t:TA}{id T:String}{r:List V->Hp->VK->Prop}
def KU(r:List V->Hp->VK->Prop)(t:TA):TE:=λσ H Q=>t σ H λvs H1=>r vs H1 Q
theorem qQ(hc:dB X (.builtin id) r)(hg:Gl X x)(hm:X.mg x=none)(hv:PF x=some (.builtin id))(ha:PA X (e::es) t)(hn:x≠"__name__":=by decide)(hdb:(x==("__debug__":Str))=false:=by decide)
 (he:N8 (e::es) X.env=(false,eval e X.env)::N8 es X.env:=by rfl) (hpl:(Ql pos (N8 es X.env)).any (·.1)=false:=by rfl):PE X (.Call (.Name x p) (e::es) [] pos) (KU r t):=by
 intro ah s σ H Q I h;refine RU (qH I hg hm hv ?_ hn hdb);exact WA (bU (ha pos ah s σ H _ I h) λus s1 ⟨vs,H1,I1,r1,q1⟩=>hc ah s1 σ H1 vs us Q I1 r1 q1) he hpl
theorem kH(hc:dB X (.type T) r)(hg:Gl X x)(hm:X.mg x=none)(hv:PF x=some (.type T))(ha:PA X (e::es) t)(hn:x≠"__name__":=by decide)(hdb:(x==("__debug__":Str))=false:=by decide)
 (he:N8 (e::es) X.env=(false,eval e X.env)::N8 es X.env:=by rfl) (hpl:(Ql pos (N8 es X.env)).any (·.1)=false:=by rfl):PE X (.Call (.Name x p) (e::es) [] pos) (KU r t):=by
 intro ah s σ H Q I h;refine RU (qH I hg hm hv ?_ hn hdb);exact Ru (bU (ha pos ah s σ H _ I h) λus s1 ⟨vs,H1,I1,r1,q1⟩=>hc ah s1 σ H1 vs us Q I1 r1 q1) he hpl
theorem x9(hc:dB X (.type T) r)(hg:Gl X x)(hm:X.mg x=none)(hv:PF x=some (.type T))(hn:x≠"__name__":=by decide)(hdb:(x==("__debug__":Str))=false:=by decide):
 PE X (.Call (.Name x p) [] [] pos) (KU r Lo):=by
 intro ah s σ H Q I h;refine RU (qH I hg hm hv ?_ hn hdb);exact W8 (hc ah s σ H [] [] Q I .nil h)
end
end L2
namespace HT
open PySem PyProof.Rows
section
variable {prog:OI}{w:OT}{A:OL}{E:NG->NH->Prop}{s:NH}
def sIx(n d:Nat):Option Int->Nat
 |none=>d
 |some v=>if v<0 then(v+(n:Int)).toNat else min v.toNat n
theorem sIx_none(n d:Nat):sIx n d none=d:=rfl
theorem sIx_nat(n d k:Nat):sIx n d (some (k:Int))=min k n:=by
 show(if(k:Int)<0 then((k:Int)+(n:Int)).toNat else min (k:Int).toNat n)=min k n;rw[if_neg (by omega),PL]
end
end HT
namespace L2
open PySem PySem.Spec PyProof.Rows
abbrev TO:=St->Hp->(Option Int->Hp->Prop)->Prop
def PO(X:Cx)(e:Option Expr)(t:TO):Prop:=
 ∀(ah:List (Addr×Obj)) (s:NH) (σ:St) (H:Hp) (Q:Option Int->Hp->Prop),Inv X ah σ H s->t σ H Q->
  N1 (model X.prog X.w) X.A (evalPart e X.env) (λu s'=> ∃o H',Inv X ah σ H' s'/\IsPart u o/\Q o H') X.xe s
def GG:TO:=λ_ H Q=>Q none H
def K7(t:TE):TO:=λσ H Q=>t σ H λx H1=> ∃i,x=.int i/\Q (some i) H1
theorem yB {ns:List Int}: ∀ {us:List NG},Vals (ns.map V.int) us->Vk us ns:=by
 induction ns with
 |nil=>intro us r;rw[Qu] at r;cases r;exact .nil
 |cons n ns ih=>
  intro us r;rw[NS] at r;cases r with
  |cons r1 r2=>
   obtain⟨t,e⟩:=r1;subst e;exact .cons n t (ih r2)
section
variable {X:Cx}{e:Expr}{te:TE}{lo hi:Option Expr}{tl th:TO}{pos p2:Pos}
theorem G8:PO X none GG:=by
 intro ah s σ H Q I h;rw[VG];exact NJ ⟨none,H,I,.none,h⟩
theorem FL(h:PE X e te):PO X (some e) (K7 te):=by
 intro ah s σ H Q I hw;rw[evalPart_some];refine bU (h ah s σ H _ I hw) λu s1 hq_=>?_
 obtain⟨x,H1,I1,r1,q1⟩:=hq_;obtain⟨i,rfl,q⟩:=q1;obtain⟨t,rfl⟩:=r1;exact⟨some i,H1,I1,.int i t,q⟩
def Nr(X:Cx)(r:V->Option Int->Option Int->Hp->VK->Prop):Prop:=
 ∀(ah:List (Addr×Obj)) (s:NH) (σ:St) (H:Hp) (x:V) (v vl vu:NG) (lo hi:Option Int) (sl:Addr) (Q:VK),Inv X ah σ H s->RelV x v->s.heap.IsSliceOf sl vl vu .none->IsPart vl lo->IsPart vu hi->r x lo hi H Q->
  ∃T id,typeLookup (.type T) "__getitem__"=pure (some (.builtin id))/\s.TypeIs v T/\N1 (model X.prog X.w) X.A (W9 v (.ref sl)) (EP X ah σ Q) X.xe s
def Nx(r:V->Option Int->Option Int->Hp->VK->Prop)(te:TE)(tl th:TO):TE:=λσ H Q=>te σ H λx H1=>tl σ H1 λl H2=>th σ H2 λu H3=>r x l u H3 Q
theorem u7 {r:V->Option Int->Option Int->Hp->VK->Prop}(hr:Nr X r)(he:PE X e te)(hl:PO X lo tl)(hu:PO X hi th):PE X (.Subscript e (.Slice lo hi none p2) pos) (Nx r te tl th):=by
 intro ah s σ H Q I h;refine Xp (bU (he ah s σ H _ I h) λv s1 hq_=>?_);obtain⟨x,H1,I1,r1,q1⟩:=hq_;refine wpAny_Slice (bU (hl ah s1 σ H1 _ I1 q1) λvl s2 ⟨l,H2,I2,pl,q2⟩=>bU (hu ah s2 σ H2 _ I2 q2) λvu s3 hq_=>?_);obtain⟨u,H3,I3,pu,q3⟩:=hq_;rw[VG];refine NJ ?_
 have I4:Inv X ah σ H3 {s3 with heap:=s3.heap.push {cls:=.type "slice",data:=.fields #[vl,vu,.none]}}:=I3.kept (t':=s3.toks) λb ob q=>NM _ q
 obtain⟨T,id,hT,ht,hg⟩:=hr ah {s3 with heap:=s3.heap.push {cls:=.type "slice",data:=.fields #[vl,vu,.none]}} σ H3 x v vl vu l u s3.heap.objs.size Q I4 r1 (VV ..) pl pu q3;show N1 (model X.prog X.w) X.A (VH e (.Slice lo hi none p2) v (.ref s3.heap.objs.size)) (EP X ah σ Q) X.xe {s3 with heap:=s3.heap.push {cls:=.type "slice",data:=.fields #[vl,vu,.none]}};exact Z8 (ops:=[.ref s3.heap.objs.size,v]) ht hT hg (by with_unfolding_all rfl)
def Bo(xs:List V)(lo hi:Option Int):List V:=(xs.drop (HT.sIx xs.length 0 lo)).take (HT.sIx xs.length xs.length hi-HT.sIx xs.length 0 lo)
theorem vN(xs:List V)(lo hi:Option Int):(Bo xs lo hi).length<=xs.length:=by
 unfold Bo;rw[Qy,List.length_drop];omega
end
def wS(n:Nat)(i:Int):Option Nat:=if 0<=i then(if i<n then some i.toNat else none) else if -(n:Int)<=i then some (i+n).toNat else none
def sA {α:Type}(xs:List α)(i:Int):Option α:=(wS xs.length i).bind λj=>xs[j]?
theorem uD {n:Nat}{i:Int}{j:Nat}(h:wS n i=some j):Yt i n=some j/\j<n/\ -(n:Int)<=i/\i<n:=by
 unfold wS at h
 by_cases h0:0<=i
 ·rw[if_pos h0] at h
  by_cases h1:i<n
  ·rw[if_pos h1] at h;have e:i.toNat=j:=OS h;exact⟨by rw[WN h0 h1,e],by omega,by omega,h1⟩
  ·rw[if_neg h1] at h;cases h
 ·rw[if_neg h0] at h
  by_cases h1: -(n:Int)<=i
  ·rw[if_pos h1] at h;have e:(i+n).toNat=j:=OS h;exact⟨by rw[V7 (by omega) h1,e],by omega,h1,by omega⟩
  ·rw[if_neg h1] at h;cases h
theorem uj {α:Type}{xs:List α}{i:Int}{v:α}(h:sA xs i=some v): ∃j,Yt i xs.length=some j/\xs[j]? =some v/\j<xs.length/\ -(xs.length:Int)<=i/\i<xs.length:=by
 unfold sA at h;cases e:wS xs.length i with
 |none=>rw[e] at h;cases h
 |some j=>
  rw[e] at h;obtain⟨h1,h2,h3,h4⟩:=uD e;exact⟨j,h1,h,h2,h3,h4⟩
theorem uq {α:Type}{xs:List α}{j:Nat}{v:α}(h:xs[j]? =some v):sA xs (j:Int)=some v:=by
 have hj:j<xs.length:=(NY.mp h).1;have e:wS xs.length (j:Int)=some j:=by
  unfold wS;rw[if_pos (by omega),if_pos (by omega)];simp
 unfold sA;rw[e];exact h
def tP(b:Expr):Prop:= ∀o i,U5 b false o i=YZ [o,i] (W9 o i)
def IxR(X:Cx)(r:R2):Prop:=
 ∀(value slice:Expr) (ah:List (Addr×Obj)) (s:NH) (σ:St) (H:Hp) (x y:V) (v u:NG) (Q:VK),Inv X ah σ H s->RelV x v->RelV y u->r x y H Q->
  U5 slice false v u=YZ [v,u] (W9 v u)->N1 (model X.prog X.w) X.A (VH value slice v u) (EP X ah σ Q) X.xe s
def LZ(X:Cx)(id:String)(r:V->List V->Hp->VK->Prop):Prop:=
 ∀(ah:List (Addr×Obj)) (s:NH) (σ:St) (H:Hp) (x:V) (xs:List V) (v:NG) (us:List NG) (Q:VK),Inv X ah σ H s->RelV x v->Vals xs us->r x xs H Q->
  N1 (model X.prog X.w) X.A (call (.builtin id) (v::us)) (EP X ah σ Q) X.xe s
section
variable {X:Cx}{a b:Expr}{ta tb:TE}{pos:Pos}
theorem IxR.or {r r':R2}(h:IxR X r)(h':IxR X r'):IxR X (λx y H Q=>r x y H Q\/r' x y H Q):=by
 intro value slice ah s σ H x y v u Q I rx ry q hs;rcases q with q|q
 ·exact h value slice ah s σ H x y v u Q I rx ry q hs
 ·exact h' value slice ah s σ H x y v u Q I rx ry q hs
theorem HN {r:R2}(hr:IxR X r)(ha:PE X a ta)(hb:PE X b tb)(hs:tP b):PE X (.Subscript a b pos) (J5 r ta tb):=by
 intro ah s σ H Q I h;exact Xp (Jk ha hb I h λv u s2 x y H2 I2 rx ry q=>hr a b ah s2 σ H2 x y v u Q I2 rx ry q (hs _ _))
def KD(K:NU):R2:=λx y H Q=> ∃p xs i v,x=.ref p/\y=.int i/\SqL K H p xs/\sA xs i=some v/\Q v H
def Ki(K:NU):R2:=λx y H Q=> ∃p xs i v,x=.ref p/\y=.int i/\SqT K H p xs/\sA xs i=some v/\Q v H
def Kw:R2:=λx y H Q=> ∃z i c,x=.str z/\y=.int i/\z.length<=Oi/\sA z.cps.toList i=some c/\Q (.str ⟨#[c]⟩) H
theorem ix_list:IxR X (KD X.K):=by
 intro value slice ah s σ H x y v u Q I rx ry h hs;obtain⟨p,xs,i,z,rfl,rfl,hq,he,q⟩:=h;cases rx;obtain⟨t,rfl⟩:=ry;obtain⟨its,r,pl,hz⟩:=I.list hq;obtain⟨j,h1,h2,h3,h4,h5⟩:=uj he;obtain⟨w,ew,rw'⟩:=r.get h2;have hl:=r.length;have hn:=l6;have fin:EP X ah σ Q w s:=⟨z,H,I,rw',q⟩
 by_cases h0:0<=i
 ·have hj:i.toNat=j:=by
   rw[WN h0 h5] at h1;exact OS h1
  exact item_listR pl.isList h0 (by omega) (by rw[hj];simpa using ew) fin hs
 ·have hj:(i+(its.toArray.size:Int)).toNat=j:=by
   rw[V7 (by omega) h4] at h1;rw[N9,<-hl];exact OS h1
  exact Uv (x:=w) pl.isList.typeIs TN.lookup
   (wpAny_getItem_list_neg (Q:=λr s'=>r=w/\EP X ah σ Q r s') pl.isList (by omega) (by rw[N9]<;>omega) (by omega) (by rw[hj];simpa using ew) ⟨rfl,fin⟩) hs
theorem ix_tup:IxR X (Ki X.K):=by
 intro value slice ah s σ H x y v u Q I rx ry h hs;obtain⟨p,xs,i,z,rfl,rfl,hq,he,q⟩:=h;cases rx;obtain⟨t,rfl⟩:=ry;obtain⟨its,r,pl,hz⟩:=I.tuple hq;obtain⟨j,h1,h2,h3,h4,h5⟩:=uj he;obtain⟨w,ew,rw'⟩:=r.get h2;have hl:=r.length;have hn:=l6;have fin:EP X ah σ Q w s:=⟨z,H,I,rw',q⟩
 exact Uv (x:=w) pl.typeIs slot_tuple_getitem.lookup
  (getItem_tuple (j:=j) (Q:=λr s'=>r=w/\EP X ah σ Q r s') pl (by omega) (by omega) (by rw[N9,<-hl];exact h1) (by simpa using ew) ⟨rfl,fin⟩) hs
theorem HW:IxR X Kw:=by
 intro value slice ah s σ H x y v u Q I rx ry h hs;obtain⟨z,i,c,rfl,rfl,hz,he,q⟩:=h;obtain⟨t,rfl⟩:=rx;obtain⟨t',rfl⟩:=ry;obtain⟨j,h1,h2,h3,h4,h5⟩:=uj he;have hl:z.cps.toList.length=z.length:=by simp[Str.length]
 rw[hl] at h1 h4 h5;have hn:=l6
 exact Z8 (typeIs_str s z t) slot_str_getitem.lookup (getItem_str (c:=c) (by
  have e1:decide (i< -(2^63:Int))=false:=decide_eq_false (by omega);have e2:decide (i≥2^63)=false:=decide_eq_false (by omega)
  rw[e1,e2,VI]) (by rw[h1];simpa using h2) ⟨.str ⟨#[c]⟩,H,I.tok _,⟨_,rfl⟩,q⟩) hs
def Nk(K:NU):R2:=λx y H Q=>KD K x y H Q\/Ki K x y H Q\/Kw x y H Q
theorem aI:IxR X (Nk X.K):=ix_list.or (ix_tup.or HW)
theorem yd(its:List NG)(n j:Nat)(u:NG):QD (·.setIfInBounds j u) {cls:=.type "list",data:=.seq its.toArray n}={cls:=.type "list",data:=.seq (its.set j u).toArray n}:=by
 simp[QD]
theorem Inv.lst {ah:List (Addr×Obj)}{σ:St}{H:Hp}{s:NH}{p:Addr}{xs:List V}(I:Inv X ah σ H s)(h:H p=some (.lst xs)):
 ∃(its:List NG) (n:Nat),Vals xs its/\s.heap.get? p=some {cls:=.type "list",data:=.seq its.toArray n}/\xs.length<=sizeLine:=by
 obtain⟨z,its,n,r,e⟩:=I.hok p _ h;exact⟨its,n,r,e,z⟩
theorem Inv.lstUpd {ah:List (Addr×Obj)}{σ:St}{H:Hp}{s:NH}{p:Addr}{xs ys:List V}{its its':List NG}{n n':Nat}{f:Obj->Obj}(I:Inv X ah σ H s)(h:H p=some (.lst xs))
 (ho:s.heap.get? p=some {cls:=.type "list",data:=.seq its.toArray n}) (hf:f {cls:=.type "list",data:=.seq its.toArray n}={cls:=.type "list",data:=.seq its'.toArray n'}) (r:Vals ys its') (hz:ys.length<=Oi) (t:Nat):
 Inv X ah σ (cm H p (.lst ys)) {s with heap:=s.heap.update p f,toks:=t}:=by
 have e:(s.heap.update p f).get? p=some {cls:=.type "list",data:=.seq its'.toArray n'}:=by
  rw[Pg f ho (by rw[hf]<;>rfl),hf]
 refine I.write (x:=p) (e:=p) (by rw[h];trivial) (.inl rfl) (λb u hb q=>(Qv _ _ (OX hb)).trans q) ⟨_,e⟩ ?_
 exact⟨hz,its',n',r,e⟩
def KH:V->V->V->Hp->(Hp->Prop)->Prop:=λo i v H Q=> ∃p xs k j,o=.ref p/\i=.int k/\H p=some (.lst xs)/\wS xs.length k=some j/\Q (cm H p (.lst (xs.set j v)))
theorem EF:KN X KH:=by
 intro ah s σ H o i v ov iv u Q I ro ri rv h;obtain⟨p,xs,k,j,rfl,rfl,hp,hj,q⟩:=h;cases ro;obtain⟨t,rfl⟩:=ri;obtain⟨its,n,r,ho,hz⟩:=I.lst hp;obtain⟨h1,h2,h3,h4⟩:=uD hj;have hl:=r.length;have hn:=l6;have I':Inv X ah σ (cm H p (.lst (xs.set j v))) {s with heap:=s.heap.update p (QD (·.setIfInBounds j u))}:=
  I.lstUpd hp ho (yd its n j u) (r.set rv j) (by rw[WW];exact hz) s.toks
 by_cases h0:0<=k
 ·have hk:k.toNat=j:=by
   rw[WN h0 h4] at h1;exact OS h1
  exact W.ki_setAt ho h0 (by omega) (by rw[N9,<-hl];exact h4) (by rw[hk];exact⟨_,I',q⟩)
 ·have hk:(k+(its.toArray.size:Int)).toNat=j:=by
   rw[V7 (by omega) h3] at h1;rw[N9,<-hl];exact OS h1
  exact W.ki_setBack ho (by omega) (by rw[N9,<-hl];exact h3) (by omega) (by rw[hk];exact⟨_,I',q⟩)
theorem tT(lo hi:Option Int)(n:Nat):(RY lo hi none n).1=((HT.sIx n 0 lo:Nat):Int)/\(RY lo hi none n).2.1=((HT.sIx n n hi:Nat):Int)/\(RY lo hi none n).2.2=1:=by
 refine⟨?_,?_,rfl⟩
 ·cases lo with
  |none=>simp[RY,HT.sIx]
  |some i=>
   simp only[RY,HT.sIx,WB,show(1:Int)>0 by decide,if_true]
   by_cases h:i<0
   ·simp only[h,if_true]<;>omega
   ·simp only[h,if_false]<;>omega
 ·cases hi with
  |none=>simp[RY,HT.sIx]
  |some i=>
   simp only[RY,HT.sIx,WB,show(1:Int)>0 by decide,if_true]
   by_cases h:i<0
   ·simp only[h,if_true]<;>omega
   ·simp only[h,if_false]<;>omega
theorem rA(its:List NG)(lo hi:Option Int):WC its.toArray lo hi none=((its.drop (HT.sIx its.length 0 lo)).take (HT.sIx its.length its.length hi-HT.sIx its.length 0 lo)).toArray:=by
 obtain⟨h1,h2,h3⟩:=tT lo hi its.toArray.size;unfold WC;rw[h1,h2,h3];simp only[sliceRange_one,pick_run,N9]<;>rfl
def MV(K:NU):V->Option Int->Option Int->Hp->VK->Prop:=λx lo hi H Q=> ∃a xs,x=.ref a/\SqL K H a xs/\ ∀p,H p=none->Q (.ref p) (cm H p (.lst (Bo xs lo hi)))
theorem zN:Nr X (MV X.K):=by
 intro ah s σ H x v vl vu lo hi sl Q I rx hs pl pu h;obtain⟨a,xs,rfl,hx,q⟩:=h;cases rx;obtain⟨its,r,ht,hz⟩:=I.list hx;have hlen:=r.length;refine⟨"list",_,TN.lookup,ht.isList.typeIs,?_⟩;refine T5 ht.isList hs pl pu .none (by simp) ?_ (by rw[N9]<;>omega)
 rw[rA,<-hlen];refine⟨.ref s.heap.objs.size,_,I.laid (t':=s.toks) (o:=.lst (Bo xs lo hi)) (λb ob q=>NM _ q) (NT _) ?_,rfl,q _ (I.hok.fresh (NT _))⟩;exact⟨OE (vN xs lo hi) hz,_,0,(r.drop (HT.sIx xs.length 0 lo)).take (HT.sIx xs.length xs.length hi-HT.sIx xs.length 0 lo),NZ _ rfl⟩
theorem be:dB X (.builtin "len") (λxs H Q=> ∃p ys,xs=[.ref p]/\(SqL X.K H p ys\/SqT X.K H p ys)/\Q (.int ys.length) H):=by
 intro ah s σ H xs us Q I r h;obtain⟨p,ys,rfl,hq,q⟩:=h;obtain⟨u,rfl,rx⟩:=jN r;cases rx;have hn:=l6;rcases hq with hq|hq
 ·obtain⟨its,r',pl,hz⟩:=I.list hq;have hlen:=r'.length;exact Calls.call_len_list pl.isList (by simp only[N9]<;>omega) ⟨.int ys.length,H,I.tok _,⟨s.toks+1,by rw[N9,hlen]⟩,q⟩
 ·obtain⟨its,r',pl,hz⟩:=I.tuple hq;have hlen:=r'.length;exact len_tuple pl (by simp only[N9]<;>omega) ⟨.int ys.length,H,I.tok _,⟨s.toks+1,by rw[N9,hlen]⟩,q⟩
theorem ny:dB X (.type "list") (λxs H Q=> ∃p ys,xs=[.ref p]/\(SqL X.K H p ys\/SqT X.K H p ys)/\ ∀l,H l=none->Q (.ref l) (cm H l (.lst ys))):=by
 intro ah s σ H xs us Q I r h;obtain⟨p,ys,rfl,hq,q⟩:=h;obtain⟨u,rfl,rx⟩:=jN r;cases rx;have fin: ∀(its:List NG),Vals ys its->ys.length<=Oi-> ∀(h':Heap) (c':Nat),(∀b o',s.heap.get? b=some o'->h'.get? b=some o')->
  h'.get? s.heap.objs.size=some {cls:=.type "list",dict:=none,data:=.seq its.toArray c',slots:= #[]}->EP X ah σ Q (.ref s.heap.objs.size) {s with heap:=h'}:=λits r' hz h' c' kp e=>
  ⟨.ref s.heap.objs.size,_,I.laid (t':=s.toks) kp (NT _) (show ObjOk X.prog X.w _ h' _ (.lst ys) from⟨hz,its,c',r',e⟩),rfl,q _ (I.hok.fresh (NT _))⟩
 rcases hq with hq|hq
 ·obtain⟨its,r',pl,hz⟩:=I.list hq;have hlen:=r'.length;obtain⟨o,ho,hc,n,hd⟩:=pl.isList;exact X7 p (.inl rfl) ho hc hd (λh' c' kp e=>fin its r' hz h' c' kp e) (by simp only[N9]<;>omega)
 ·obtain⟨its,r',pl,hz⟩:=I.tuple hq;have hlen:=r'.length;obtain⟨o,ho,hc,n,hd⟩:=pl;exact X7 p (.inr rfl) ho hc hd (λh' c' kp e=>fin its r' hz h' c' kp e) (by simp only[N9]<;>omega)
theorem dE:dB X (.type "tuple") (λxs H Q=> ∃p ys,xs=[.ref p]/\((SqL X.K H p ys/\ ∀l,H l=none->Q (.ref l) (cm H l (.tup ys)))\/(SqT X.K H p ys/\Q (.ref p) H))):=by
 intro ah s σ H xs us Q I r h;obtain⟨p,ys,rfl,h⟩:=h;obtain⟨u,rfl,rx⟩:=jN r;cases rx;rcases h with⟨hq,q⟩|⟨hq,q⟩
 ·obtain⟨its,r',pl,hz⟩:=I.list hq;have hlen:=r'.length;refine call_tuple_list pl.isList (λh' kp=>?_) (by simp only[N9]<;>omega);have I1:Inv X ah σ H {s with heap:=h'}:=I.kept (t':=s.toks) kp;have I2:Inv X ah σ (cm H h'.objs.size (.tup ys)) {s with heap:=h'.push {cls:=.type "tuple",data:=.seq its.toArray}}:=
   I1.laid (t':=s.toks) (λb o e=>NM _ e) (NT _) (show ObjOk X.prog X.w _ _ _ (.tup ys) from⟨hz,its,r',IsTup.new _ _,_,NZ _ rfl,rfl⟩)
  exact⟨.ref h'.objs.size,_,I2,rfl,q _ (I1.hok.fresh (NT _))⟩
 ·obtain⟨its,r',pl,hz⟩:=I.tuple hq;exact call_tuple_same pl ⟨.ref p,H,I,rfl,q⟩
def Nq(K:NU)(T:String)(x:V)(H:Hp):Prop:=match x with
 | .str _=>T="str"
 | .int _=>T="int"
 | .ref p=>(T="list"/\ ∃xs,SqL K H p xs)\/(T="tuple"/\ ∃xs,SqT K H p xs)\/
    (T="dict"/\((∃kvs,H p=some (.dK kvs))\/ ∃kvs,H p=some (.dT kvs)))\/(T="set"/\ ∃S n,H p=some (.set S n))\/(T="set"/\ ∃xs,H p=some (.tst xs))
 |_=>False
theorem Jb {ah:List (Addr×Obj)}{σ:St}{H:Hp}{s:NH}{T:String}{x:V}{v:NG}(I:Inv X ah σ H s)(r:RelV x v)(ty:Nq X.K T x H):
 s.TypeIs v T/\ ∀a,v=.ref a-> ∃ob,s.heap.get? a=some ob/\ob.dict=none:=by
 cases x with
 |str z=>
  obtain⟨t,rfl⟩:=r;cases (show T="str" from ty);exact⟨typeIs_str s z t,λ_ e=>nomatch e⟩
 |int i=>
  obtain⟨t,rfl⟩:=r;cases (show T="int" from ty);exact⟨typeIs_int s i t,λ_ e=>nomatch e⟩
 |ref p=>
  cases r;rcases ty with⟨rfl,xs,hq⟩|⟨rfl,xs,hq⟩|⟨rfl,hk⟩|⟨rfl,S,n,hk⟩|⟨rfl,xs,hk⟩
  ·obtain⟨its,_,pl,_⟩:=I.list hq;refine⟨pl.isList.typeIs,λa e=>?_⟩;cases e;obtain⟨o,n,e,c,hd,_⟩:=pl;exact⟨o,e,hd⟩
  ·obtain⟨⟨ob,ho,hc⟩,o2,h2,hd⟩:=I.tupleN hq;refine⟨⟨ob,ho,hc⟩,λa e=>?_⟩;cases e;exact⟨o2,h2,hd⟩
  ·have z: ∃o,s.heap.get? p=some o/\o.ExactDict:=by
    rcases hk with⟨kvs,hk⟩|⟨kvs,hk⟩
    ·obtain⟨_,_,_,_,o,_,_,e,ex,_⟩:=I.hok p _ hk;exact⟨o,e,ex⟩
    ·obtain⟨_,_,_,_,o,_,_,e,ex,_⟩:=I.hok p _ hk;exact⟨o,e,ex⟩
   obtain⟨o,e,ex⟩:=z;refine⟨⟨o,e,ex.1⟩,λa e2=>?_⟩;cases e2;exact⟨o,e,ex.2.1⟩
  ·obtain⟨o,_,_,_,e,ex,_⟩:=I.hok p _ hk;refine⟨⟨o,e,ex.1⟩,λa e2=>?_⟩;cases e2;exact⟨o,e,ex.2.1⟩
  ·obtain⟨o,_,_,_,e,ex⟩:=I.hok p _ hk;refine⟨⟨o,e,ex.ex.1⟩,λa e2=>?_⟩;cases e2;exact⟨o,e,ex.ex.2.1⟩
 |_=>exact False.elim ty
def NA(K:NU)(T:String)(r:V->List V->Hp->VK->Prop)(to:TE)(t:TA):TE:=λσ H Q=>to σ H λx H1=>Nq K T x H1/\t σ H1 λxs H2=>r x xs H2 Q
variable {o e:Expr}{es:List Expr}{to:TE}{t:TA}{name:Str}{apos cpos:Pos}{T id:String}{r:V->List V->Hp->VK->Prop}
theorem Af(pa:PlainAttrs T)(slot:Slot T name id)(hty:typeOf (.builtin id)=pure (.type "method_descriptor"))(hm:LZ X id r)(ho:PE X o to)(ha:PA X (e::es) t)
 (hbase:SL o name X.env (eval o X.env)=eval o X.env:=by rfl)
 (hfew:((Ql cpos (N8 (e::es) X.env)).all (λx=> !x.1)&&(V8 cpos (TQ [] X.env)).all (λx=>x.1.isSome)
   &&decide ((e::es).length+([]:List S9).length+(if([]:List S9).isEmpty then 0 else 1)<30))=true:=by rfl)
 (hline:(apos.endLine==cpos.line)=true:=by rfl) (hs:N8 (e::es) X.env=(false,eval e X.env)::N8 es X.env:=by rfl) (hplain:(Ql cpos (N8 es X.env)).any (·.1)=false:=by rfl):
 PE X (.Call (.Attribute o name apos) (e::es) [] cpos) (NA X.K T r to t):=by
 intro ah s σ H Q I h;refine wpAny_Call_method_late hbase hfew hline rfl (bU (ho ah s σ H _ I h) λv s1 hq_=>?_);obtain⟨x,H1,I1,r1,ty,q1⟩:=hq_;obtain⟨h1,h2⟩:=Jb I1 r1 ty;refine⟨T,id,pa,slot,hty,h1,h2,?_⟩;have hA:=ha cpos ah s1 σ H1 _ I1 q1;rw[hs] at hA⊢;refine Calls.callWith_builtin (by show(false||(Ql cpos (N8 es X.env)).any (·.1))=false;rw[hplain]<;>rfl) (Calls.evalArgs_plain ?_);exact bU hA λus s2 ⟨vs,H2,I2,r2,q2⟩=>hm ah s2 σ H2 x vs v us Q I2 r1 r2 q2
end
def M2(X:Cx)(id:String)(r:V->List V->Hp->VK->Prop):Prop:=
 ∀(ah:List (Addr×Obj)) (s:NH) (σ:St) (H:Hp) (x:V) (xs:List V) (v:NG) (us:List NG) (Q:VK),Inv X ah σ H s->RelV x v->Vals xs us->r x xs H Q->
  N1 (model X.prog X.w) X.A (call (.builtin id) (v::us)) (EP X ah σ Q) X.xe s
theorem Vals.one: ∀ {x:V} {us:List NG},Vals [x] us-> ∃u,us=[u]/\RelV x u
 |_,_,.cons r .nil=>⟨_,rfl,r⟩
theorem Vals.eraseIdx: ∀ {xs:List V} {us:List NG} (i:Nat),Vals xs us->Vals (xs.eraseIdx i) (us.eraseIdx i)
 |_,_,_,.nil=>.nil
 |_,_,0,.cons _ t=>t
 |_,_,i+1,.cons r t=>.cons r (Vals.eraseIdx i t)
theorem so {α:Type}: ∀(l:List α) (i:Nat),(l.eraseIdx i).length<=l.length
 | [],_=>NT _
 |_::_,0=>RZ _
 |_::r,i+1=>Nat.succ_le_succ (so r i)
section
variable {X:Cx}{ah:List (Addr×Obj)}{σ:St}{H:Hp}{s:NH}{l b:Addr}{xs ys zs:List V}
theorem Inv.lset {its its':List NG}{n:Nat}{f:Array NG->Array NG}{t':Nat}(I:Inv X ah σ H s)(hH:H l=some (.lst xs))
 (e:s.heap.get? l=some {cls:=.type "list",data:=.seq its.toArray n}) (hf:f its.toArray=its'.toArray) (hv:Vals ys its') (hz:ys.length<=Oi):
 Inv X ah σ (cm H l (.lst ys)) {s with heap:=s.heap.update l (QD f),toks:=t'}:=by
 have q:=PySem.IsL.update e f;rw[hf] at q;refine I.write (x:=l) (e:=l) (by rw[hH];exact trivial) (.inl rfl) (λb' u hb hu=>(Qv s.heap (QD f) (OX hb)).trans hu) ⟨_,q⟩ ?_
 exact⟨hz,its',_,hv,q⟩
theorem Inv.lnew {its:List NG}{t':Nat}(I:Inv X ah σ H s)(hv:Vals ys its)(hz:ys.length<=Oi):
 Inv X ah σ (cm H s.heap.objs.size (.lst ys)) {s with heap:=s.heap.push {cls:=.type "list",data:=.seq its.toArray},toks:=t'}:=
 I.laid (λ_ _ q=>NM _ q) (NT _) ⟨hz,its,0,hv,NZ _ rfl⟩
theorem Inv.fresh(I:Inv X ah σ H s):H s.heap.objs.size=none:=I.hok.fresh (NT _)
theorem Inv.lstM(I:Inv X ah σ H s)(hH:H l=some (.lst xs)):xs.length<=Oi/\ ∃(its:List NG) (n:Nat),Vals xs its/\xs.length=its.length/\s.heap.get? l=some {cls:=.type "list",data:=.seq its.toArray n}:=by
 obtain⟨z,its,n,r,e⟩:=I.hok l _ hH;exact⟨z,its,n,r,r.length,e⟩
end
section
variable {X:Cx}
def zq:V->List V->Hp->VK->Prop:=λx vs H Q=> ∃l xs y,x=.ref l/\vs=[y]/\H l=some (.lst xs)/\xs.length<Oi/\Q .non (cm H l (.lst (xs++[y])))
theorem eC:M2 X "list.append" zq:=by
 intro ah s σ H x vs v us Q I rx rv h;obtain⟨l,xs,y,rfl,rfl,hH,hz,q⟩:=h;cases rx;obtain⟨u,rfl,ru⟩:=rv.one;obtain⟨z,its,n,r,hl,e⟩:=I.lstM hH;refine Xq Qj ⟨_,e,rfl⟩ F.entry_list_append (F.args_list_append_2 _ _) (PySem.list_append l its.toArray n u (by rw[N9];omega)) ⟨e,?_⟩;refine⟨.non,_,I.lset (its':=its++[u]) hH e (by simp) (r.append (.cons ru .nil)) ?_,rfl,q⟩;rw[Of,O7];omega
def CL:V->List V->Hp->VK->Prop:=λx vs H Q=> ∃l xs i k y,x=.ref l/\vs=[.int i]/\H l=some (.lst xs)/\ -(2^63)<=i/\i<2^63/\Yt i xs.length=some k/\xs[k]? =some y/\Q y (cm H l (.lst (xs.eraseIdx k)))
theorem Ej:M2 X "list.pop" CL:=by
 intro ah s σ H x vs v us Q I rx rv h;obtain⟨l,xs,i,k,y,rfl,rfl,hH,h1,h2,hk,hy,q⟩:=h;cases rx;obtain⟨u,rfl,ru⟩:=rv.one;obtain⟨t,rfl⟩:=ru;obtain⟨z,its,n,r,hl,e⟩:=I.lstM hH;obtain⟨w,hw,rw'⟩:=r.get hy;refine Xq F.slot_list_pop ⟨_,e,rfl⟩ F.entry_list_pop (F.args_list_pop_2 _ _)
  (MeetsSeq.list_pop_at l its.toArray n i t k w (fitsIndex_both h1 h2) (by rw[N9,<-hl];exact hk) (by rw[<-Ot];exact hw) (by rw[N9];omega)) ⟨e,?_⟩
 refine⟨y,_,I.lset (its':=its.eraseIdx k) hH e ?_ (r.eraseIdx k) ?_,rw',q⟩
 ·show its.toArray.eraseIdxIfInBounds k=(its.eraseIdx k).toArray;rw[List.eraseIdxIfInBounds_toArray]
 ·have:=so xs k;omega
end
end L2
namespace Att
open PySem PySem.W PySem.Calls PyProof.Rows
theorem o9 {P:Params}{h:Heap}: ∀(ns:List Int) (vs:List NG),WellAll P h vs (ns.map WData.int)->Vk vs ns:=by
 intro ns
 induction ns with
 |nil=>
  intro vs w;rw[Qu] at w;cases w;exact .nil
 |cons n ns ih=>
  intro vs w;rw[NS] at w;cases w with
  |cons a b=>
   cases a;exact .cons _ _ (ih _ b)
theorem BR {l:Yu}{n:Nat}(hn:l.most=some n){P:Params}{h:Heap}{args:List WData}{vals:List NG}
 (hpre:l.row.toRowW.claim.pre args=true) (hwl:WellAll P h vals args):
 ∃a vs ns,vals=[PM a]/\args=[WData.list (ns.map WData.int)]/\h.get? a=some {cls:=.type "list",data:=.seq vs.toArray}/\Vk vs ns/\ns.length<=n:=by
 have hsh:WShape.hasAll [] args [.list .int]=true:=(pre_splitW hpre).1;have hc:l.pre.holds [] {args:=args}=true:=(pre_splitW hpre).2;obtain⟨d,r,rfl,h1,h2⟩:=hasAllW_cons hsh;obtain rfl:=hasAllW_nil h2;obtain⟨xs,rfl,h3⟩:=hasW_list h1;obtain⟨ns,rfl⟩:=items_int h3;have hlen:ns.length<=n:=by
  unfold OpenLaw.pre at hc;have h4:(WTm.not (.lt (.lit (.int (n:Int))) (.len (.arg 0)))).holds [] {args:=[.list (ns.map .int)]}=true:=by
   have h4:=(holds_andW hc).1;rw[hn] at h4;exact h4
  have h5:=condW_of h4 (w_not (w_lt w_lit (w_len_list (w_arg rfl))));rw[NK] at h5;refine Nat.le_of_not_lt λq=>?_
  have q':(n:Int)<((ns.length:Nat):Int):=by omega
  first
   |(rw[decide_eq_true q'] at h5;exact absurd h5 (by decide))
   |(simp at h5;omega)
 cases hwl with
 |cons w1 w2=>
  cases w2;cases w1 with
  |list ho hall=>exact⟨_,_,ns,rfl,rfl,ho,o9 ns _ hall,hlen⟩
theorem A4(l:Yu)(args:List WData):l.row.toRowW.claim.post args (.bool true) args=true:=
 postW_of (r:=l.row.toRowW) (X:=(true==true))
  (show jca [] (.bool true) .bool=true by first|rfl|decide|simp[jca,WShape.arms,WShape.armsAll])
  (show(WTm.eq .res (.lit (.bool true))).value [] {args:=args,res:=some (.bool true),after:=args}=some (.bool (true==true)) from w_eq_bool (w_res rfl) w_lit) rfl
theorem attach_call {l:Yu}{n:Nat}{q:OI}{loose:List Str}{XP:(Str->Option NG)->Heap->Prop}{YP:OT->Heap->Prop}{d:DefRec}
 (hn:l.most=some n) (hdf:d.params.defaults=[])
 (call: ∀(w:OT) (s₀ s₁:NH) (mg mb:Str->Option NG) (fa:Addr) (o:Obj) (pm cd doc:NG) (a:Addr) (vs:List NG) (ns:List Int),
   Ground q loose [] XP w s₀ mg mb s₁.heap->YP w s₁.heap->
   s₁.heap.get? fa=some o->o.data=.func (docDef d.name d.params d.body d.scope pm cd doc)->s₁.heap.CodeRec cd d.name->mg d.name=some (.ref fa)->
   s₁.heap.get? a=some {cls:=.type "list",data:=.seq vs.toArray}->Vk vs ns->ns.length<=n->s₁.gens= #[]->
   Qp (model l.prog w) Uw (.call (.ref fa) ⟨[.ref a],[]⟩) (λr s'=>r=.ok (.ret (.bool true))/\OldK s₁.heap s'.heap/\s'.os=s₁.os/\R7 s'.gens) s₁):
 WalkO q loose XP YP l.row.toRowW d [] (λf vs=>Xr f vs):=by
 intro w s₀ s₁ mg mb G Y fa o pm cd doc dV kV ho hd hcd hD hmg hg args vals as hpre hlay hrd hwl hlo;obtain rfl:dV=.none:=Dflts.none hD hdf;obtain rfl:kV=.none:=Dflts.noKw hD;obtain⟨a,vs,ns,rfl,rfl,hobj,hints,hlen⟩:=BR hn hpre hwl;refine enter_call (Rb (call w s₀ s₁ mg mb fa o pm cd doc a vs ns G Y ho (fd_plain hd) hcd hmg hobj hints hlen hg) λr s' hq=>?_);obtain⟨rfl,h2,h3,h4⟩:=hq;exact⟨.inl ⟨.bool true,.bool true,[],rfl,λ_=>rfl,.bool true,A4 l _,λ_=>⟨Qo,λ_ hm=>(nomatch hm)⟩⟩,h2,h3,h4⟩
end Att
namespace L2
open PySem PySem.Spec PyProof.Rows
theorem rW: ∀ {vs:List NG} {ns:List Int},Vk vs ns->Vals (ns.map V.int) vs
 |_,_,.nil=>.nil
 |_,_,.cons n t h=>.cons ⟨t,rfl⟩ (rW h)
def IK(H:Hp):Prop:= ∀b,H b=none\/ ∃o xs,H b=some (.frz o (.lst xs))
theorem Cz {P:OI}{w:OT}{K:NU}{mg mb:Str->Option NG}{CX:CT}{k:Nat}{fa a:Addr}{fd:QC}{x:Str}{sp:Sp}{s₁:NH}{vs:List NG}{ns:List Int}
 (KX:K.In s₁.heap) (hns:s₁.heap.Ns OR mg) (hb:s₁.heap.Ns VU mb) (hbb: ∀x:Str,x≠"__name__"->mb x=PF x) (hlim:s₁.heap.NoLimit) (hg:s₁.gens= #[])
 (ha:s₁.heap.get? a=some {cls:=.type "list",data:=.seq vs.toArray}) (hi:Vk vs ns) (hl:ns.length<=Oi) (hr:Room k Uw)
 (F: ∀base:Heap,K.In base->base.Ns OR mg->FnOk P w K mg base CX k fa fd [x] sp) (hbind: ∀(s:NH) (u:NG),V5 s fd ⟨[u],[]⟩ [(x,u)])
 (hsp: ∀H:Hp,IK H->SqL K H a (ns.map V.int)->sp [.ref a] H (λv _=>v=.bl true) λ_ _ _=>False)
 (hCX: ∀H e s',CX [] H s₁ (λ_ _ _=>False) e s'->False):
 Qp (model P w) Uw (.call (.ref fa) ⟨[.ref a],[]⟩) (λr s'=>r=.ok (.ret (.bool true))/\OldK s₁.heap s'.heap/\s'.os=s₁.os/\R7 s'.gens) s₁:=by
 have rv:=rW hi;have lenV:=hi.length;have core: ∀H:Hp,IK H->SqL K H a (ns.map V.int)->HOk P w H s₁.heap->(∀b,H b≠none->b=a)->(H a≠none->K.lookup a=none)->
  Qp (model P w) Uw (.call (.ref fa) ⟨[.ref a],[]⟩) (λr s'=>r=.ok (.ret (.bool true))/\OldK s₁.heap s'.heap/\s'.os=s₁.os/\R7 s'.gens) s₁:=by
  intro H hO hS hok hA hK;have base_of: ∀ {b:Addr} {o:Obj},s₁.heap.get? b=some o->H b=none->(uX s₁.heap H).get? b=some o:=λe n=>E5 e n
  have noA: ∀ {b:Addr} {o:Obj} {es:Array DictEntry} {ep:Nat},s₁.heap.get? b=some o->o.data=.dict es ep->H b=none:=λ{b o es ep} e d=>by
   cases q:H b with
   |none=>rfl
   |some u=>
    have e':b=a:=hA b (by rw[q];simp);subst e';rw[ha] at e;cases e;have d':jac vs.toArray _=Data.dict es ep:=d;cases d'
  have nsK: ∀ {b:Addr} {m:Str->Option NG},s₁.heap.Ns b m->(uX s₁.heap H).Ns b m:=λ{b m} ⟨o,es,ep,e,d,r⟩=>⟨o,es,ep,base_of e (noA e d),d,r⟩
  have hKb:K.In (uX s₁.heap H):=λb o e=>base_of (KX b o e) (by
   cases q:H b with
   |none=>rfl
   |some u=>
    have e':b=a:=hA b (by rw[q];simp)
    subst e';rw[hK (by rw[q];simp)] at e;cases e)
  have hM:Mod K mg (uX s₁.heap H):=⟨hKb,nsK hns,⟨mb,nsK hb,hbb⟩,let⟨mc,h1,h2⟩:=hlim;⟨mc,nsK h1,h2⟩⟩
  have e0:Env0 P w K mg (uX s₁.heap H) Uw [] s₁ H:=⟨rfl,hM,λb o e=>Hl e,Ux (AT _ _),trivial,λb hb=>absurd (show b∈([]:List Addr) from hb) (by simp),hok,.of_eq hg⟩
  refine Rb ((F _ hKb (nsK hns)).run Uw [] s₁ H ⟨[.ref a],[]⟩ [.ref a] [.ref a] _ _ hr e0 (hbind s₁ (.ref a)) (.cons rfl .nil) (hsp H hO hS)) λr s' h=>?_
  cases r with
  |error e=>exact(hCX H e s' h).elim
  |ok fl=>
   cases fl with
   |next=>exact False.elim h
   |brk=>exact False.elim h
   |cont=>exact False.elim h
   |ret u=>
    obtain⟨v,H',os,bare,un,hok',r',q⟩:=h;have q':v=.bl true:=q;subst q';obtain rfl:u=jbK true:=r';refine⟨rfl,OldK.of_keep λb o e=>?_,os,bare⟩;cases q:H b with
    |none=>exact un.keep b o e q (by intro z;exact absurd (show b∈([]:List Addr) from z) (by simp)) (by simp)
    |some u=>
     rcases hO b with z|⟨ob,xs,z⟩
     ·rw[q] at z;cases z
     ·have z2:=un.frzs b ob _ z;obtain⟨e1,_⟩:=hok b _ z;obtain⟨e2,_⟩:=hok' b _ z2;rw[e] at e1;cases e1;exact e2
 cases hk:K.lookup a with
 |some o=>
  have e:=KX a o hk;rw[ha] at e;cases e;refine core (λ_=>none) (λ_=>.inl rfl) (.inr ⟨_,vs.toArray,_,hk,rfl,rfl,rfl,by rw[N9,lenV];exact hl,by simpa using rv⟩) (λb u z=>by have z':(none:Option HO)=some u:=z;cases z') (λb z=>absurd rfl z) λz=>absurd rfl z
 |none=>
  refine core (λb=>if b=a then some (.frz {cls:=.type "list",data:=.seq vs.toArray} (.lst (ns.map V.int))) else none) (λb=>?_) (.inl (.inr ⟨{cls:=.type "list",data:=.seq vs.toArray},if_pos rfl⟩)) (λb u z=>?_) (λb z=>?_) λ_=>hk
  ·by_cases hb:b=a
   ·exact .inr ⟨_,_,if_pos hb⟩
   ·exact .inl (if_neg hb)
  ·by_cases hb:b=a
   ·have z':=(if_pos hb).symm.trans z;cases z';subst hb;exact⟨ha,by rw[NK];exact hl,vs,_,rv,ha⟩
   ·have z':=(if_neg hb).symm.trans z;cases z'
  ·by_cases hb:b=a
   ·exact hb
   ·exact absurd (if_neg hb) z
theorem walk_of {l:Yu}{n k:Nat}{q:OI}{loose:List Str}{XP:(Str->Option NG)->Heap->Prop}{YP:OT->Heap->Prop}{d:DefRec}{K:Params->NU}{CX:OT->CT}{sp:OT->Sp}{x:Str}
 (hn:l.most=some n) (hn2:n<=Oi) (hdf:d.params.defaults=[]) (hr:Room k Uw)
 (hY: ∀(w:OT) (h:Heap),YP w h->(K w.params).In h)
 (F: ∀(w:OT) (mg:Str->Option NG) (fa:Addr) (h:Heap),(K w.params).In h->h.Ns OR mg->mg d.name=some (.ref fa)->
   ∃fd:QC,(∀(s:NH) (u:NG),V5 s fd ⟨[u],[]⟩ [(x,u)])/\
    ∀base:Heap,(K w.params).In base->base.Ns OR mg->FnOk l.prog w (K w.params) mg base (CX w) k fa fd [x] (sp w))
 (hsp: ∀(w:OT) (H:Hp) (a:Addr) (ns:List Int),ns.length<=n->IK H->SqL (K w.params) H a (ns.map V.int)->sp w [.ref a] H (λv _=>v=.bl true) λ_ _ _=>False)
 (hCX: ∀(w:OT) (H:Hp) (s:NH) (e:NG) (s':NH),CX w [] H s (λ_ _ _=>False) e s'->False):
 W.WalkO q loose XP YP l.row.toRowW d [] (λf vs=>Xr f vs):=by
 refine Att.attach_call hn hdf λw s₀ s₁ mg mb fa o pm cd doc a vs ns G Y ho hd hcd hmg hobj hints hlen hg=>?_
 have KX:=hY w _ Y;obtain⟨fd,hb,hF⟩:=F w mg fa _ KX G.T.g hmg;exact Cz KX G.T.g G.T.b G.T.builtins G.T.nolimit hg hobj hints (OE hlen hn2) hr hF hb (λH hO hS=>hsp w H a ns hlen hO hS) λH e s'=>hCX w H s₁ e s'
def hJ(s:Stmt):Arguments:=match s with
 | .FunctionDef _ a _ _ _ _ _ _ _ _=>a
 |_=>{posonlyargs:=[],args:=[],vararg:=none,kwonlyargs:=[],kw_defaults:=[],kwarg:=none,defaults:=[]}
def dw(s:Stmt):List Stmt:=match s with
 | .FunctionDef _ _ b _ _ _ _ _ _ _=>b
 |_=>[]
def ax(s:Stmt):Scope:=match s with
 | .FunctionDef _ _ _ _ _ _ sc _ _ _=>sc
 |_=>{kind:=.function,names:=[],isGenerator:=false,isCoroutine:=false}
abbrev u3:CT:=λ_ _ _ _ _ _=>False
abbrev E0:XK:=λ_ _ _=>False
theorem Hv {X:Cx}:xt u3 X E0:=λ_ _ _ _ _ _ _ h=>h.elim
structure Fun(K:NU)(x qual:Str)(st:Stmt)(f:Addr)(fd:QC):Prop where
 ex: ∃(oc:NG) (od:Option Addr) (kV doc pm:NG) (an:Option Addr) (cdv ct:NG) (osl:Array (Option NG)),
  fd=Uu x qual (hJ st) (dw st) (ax st) .none kV doc pm an cdv ct/\K.lookup f=some ⟨oc,od,.func fd,osl⟩/\V6 K cdv qual=true
 kp:Tn K (.ref f)=true
section
variable {P:OI}{w:OT}{K:NU}{mg:Str->Option NG}{base:Heap}
theorem Fun.ok {x qual:Str}{st:Stmt}{f:Addr}{fd:QC}{N ps:List Str}{k:Nat}{sp:Sp}(F:Fun K x qual st f fd)(S:FnScope N ps (ax st))(len: ∀vs H Q E,sp vs H Q E->vs.length=ps.length)
 (hbody: ∀(cdv:NG) (A:OL) (outer:List Env) (s:NH) (H:Hp) (vs:List V) (Q:VK) (E:XK),Room k (A.deeper (SW qual (ax st) s.heap.objs.size f cdv))->sp vs H Q E->
   ∃t,PSs (rM u3 P w K mg base N qual (ax st) f cdv A outer s H E).nox (dw st) t/\t {nx:=λ_ H'=>Q .non H',rt:=Q} (start N vs) H):FnOk P w K mg base u3 (k+1) f fd ps sp:=by
 obtain⟨oc,od,kV,doc,pm,an,cdv,ct,osl,rfl,lk,hcd⟩:=F.ex;refine Kg lk hcd S len λA outer s H vs Q E hr hsp=>?_
 obtain⟨t,h,q⟩:=hbody cdv A outer s H vs Q E hr hsp;exact⟨t,h.nox,q⟩
theorem Fun.binds {x qual:Str}{st:Stmt}{f:Addr}{fd:QC}{ps:List Str}(F:Fun K x qual st f fd)
 (h: ∀(kV doc pm:NG) (an:Option Addr) (cdv ct:NG) (us:List NG),us.length=ps.length->Z5 (Uu x qual (hJ st) (dw st) (ax st) .none kV doc pm an cdv ct) ⟨us,[]⟩=pure (ps.zip us)):Binds K fd ps []:=by
 obtain⟨oc,od,kV,doc,pm,an,cdv,ct,osl,rfl,lk,hcd⟩:=F.ex;exact .all (h kV doc pm an cdv ct)
theorem ya {x qual:Str}{st:Stmt}{f:Addr}{oc:NG}{od an:Option Addr}{osl:Array (Option NG)}{kV doc pm cdv ct:NG}(l:K.lookup f=some ⟨oc,od,.func (Uu x qual (hJ st) (dw st) (ax st) .none kV doc pm an cdv ct),osl⟩)
 (c:V6 K cdv qual=true) (k:Tn K (.ref f)=true):Fun K x qual st f (Uu x qual (hJ st) (dw st) (ax st) .none kV doc pm an cdv ct):=⟨⟨oc,od,kV,doc,pm,an,cdv,ct,osl,rfl,l,c⟩,k⟩
end
theorem B7 {A:OL}{k:Nat}(hr:Room k A):A.units+1<cLine:=Pz (Vo (by decide:1<=64) _) hr.units
theorem kE {n:Nat}(h:n<=1000):n<sizeLine:=Pz h (by decide)
section
variable {X:Cx}
theorem pv(i:Nat){x:Str}{pos:Pos}(hN:X.N[i]? =some x:=by rfl)(hv:xG X.env.scope x:=by first|exact P7 rfl|exact Pi (P7 rfl)|exact Pi (Pi rfl))(hd:(x==("__debug__":Str))=false:=by decide)
 (hcd:(x==("__classdict__":Str))=false:=by decide):PE X (.Name x pos) (Lj i):=JI hN hv hd hcd
end
theorem yk {A B:Prop}(h:B):if false=true then A else B:=by
 rw[if_neg Ra];exact h
theorem xz {A B:Prop}(h:A):if true=true then A else B:=by
 rw[if_pos rfl];exact h
def Same(H H':Hp):Prop:= ∀b o,H b=some o->H' b=some o
theorem Same.refl(H:Hp):Same H H:=λ_ _ h=>h
theorem Same.trans {H H1 H2:Hp}(a:Same H H1)(b:Same H1 H2):Same H H2:=λc o h=>b c o (a c o h)
theorem Same.free {H H':Hp}(e:Same H H'){l:Addr}(h:H' l=jad):H l=Option.none:=by
 cases q:H l with
 |none=>rfl
 |some o=>
  rw[e l o q] at h;cases h
theorem Same.seq {K:NU}{H H':Hp}{a:Addr}{xs:List V}(e:Same H H')(h:SqL K H a xs):SqL K H' a xs:=by
 rcases h with(h|⟨o,h⟩)|h
 ·exact .inl (.inl (e _ _ h))
 ·exact .inl (.inr ⟨o,e _ _ h⟩)
 ·exact .inr h
inductive D where
 |non|bl (b:Bool)|int (i:Int)|str (x:Str)|tup (ds:List D)|lst (ds:List D)
 |scr (ds:List D)
def SqR(K:NU)(H:Hp)(a:Addr)(xs:List V):Prop:=
 (∃o,H a=some (.frz o (.lst xs)))\/
   ∃(o:Obj) (its:Array NG) (n:Nat),K.lookup a=some o/\o.cls=.type "list"/\o.dict=none/\o.data=.seq its n/\its.size<=Oi/\Vals xs its.toList
theorem SqR.seq {K:NU}{H:Hp}{a:Addr}{xs:List V}(h:SqR K H a xs):SqL K H a xs:=h.elim (λh=>.inl (.inr h)) .inr
theorem Same.seqR {K:NU}{H H':Hp}{a:Addr}{xs:List V}(e:Same H H')(h:SqR K H a xs):SqR K H' a xs:=h.elim (λ⟨o,h⟩=>.inl ⟨o,e _ _ h⟩) .inr
mutual
inductive Rep (K:NU) (F:Hp):V->D->Prop
 |non:Rep K F .non .non
 |bl {b:Bool}:Rep K F (.bl b) (.bl b)
 |int {i:Int}:Rep K F (.int i) (.int i)
 |str {x:Str}:Rep K F (.str x) (.str x)
 |tup {a:Addr} {xs:List V} {ds:List D}:SqT K F a xs->Reps K F xs ds->Rep K F (.ref a) (.tup ds)
 |lst {a:Addr} {xs:List V} {ds:List D}:F a=some (.lst xs)->Reps K F xs ds->Rep K F (.ref a) (.lst ds)
 |scr {a:Addr} {xs:List V} {ds:List D}:SqR K F a xs->Reps K F xs ds->Rep K F (.ref a) (.scr ds)
inductive Reps (K:NU) (F:Hp):List V->List D->Prop
 |nil:Reps K F [] []
 |cons {x:V} {d:D} {xs:List V} {ds:List D}:Rep K F x d->Reps K F xs ds->Reps K F (x::xs) (d::ds)
end
theorem Same.seqT {K:NU}{H H':Hp}{a:Addr}{xs:List V}(e:Same H H')(h:SqT K H a xs):SqT K H' a xs:=by
 rcases h with(h|⟨o,h⟩)|h
 ·exact .inl (.inl (e _ _ h))
 ·exact .inl (.inr ⟨o,e _ _ h⟩)
 ·exact .inr h
mutual
theorem Rep.mono {K:NU}{F G:Hp}(s:Same F G): ∀ {v:V} {d:D},Rep K F v d->Rep K G v d
 |_,_,.non=>.non
 |_,_,.bl=>.bl
 |_,_,.int=>.int
 |_,_,.str=>.str
 |_,_,.tup h r=>.tup (Same.seqT s h) (Reps.mono s r)
 |_,_,.lst h r=>.lst (s _ _ h) (Reps.mono s r)
 |_,_,.scr h r=>.scr (Same.seqR s h) (Reps.mono s r)
theorem Reps.mono {K:NU}{F G:Hp}(s:Same F G): ∀ {v:List V} {d:List D},Reps K F v d->Reps K G v d
 |_,_,.nil=>.nil
 |_,_,.cons r t=>.cons (Rep.mono s r) (Reps.mono s t)
end
section
variable {K:NU}{F G H:Hp}
theorem Reps.length: ∀ {xs:List V} {ds:List D},Reps K F xs ds->xs.length=ds.length
 |_,_,.nil=>rfl
 |_,_,.cons _ t=>by simp[t.length]
theorem Reps.get: ∀ {xs:List V} {ds:List D} {i:Nat} {d:D},Reps K F xs ds->ds[i]? =some d-> ∃x,xs[i]? =some x/\Rep K F x d
 |_,_,_,_,.nil,e=>by simp at e
 |_,_,0,_,.cons r _,e=>by simp at e;subst e;exact⟨_,rfl,r⟩
 |_,_,i+1,d,.cons _ t,e=>by
  obtain⟨u,h1,h2⟩:=Reps.get (i:=i) (d:=d) t (by simpa using e);exact⟨u,by simpa using h1,h2⟩
theorem Reps.get' {xs:List V}{ds:List D}{i:Nat}{x:V}(r:Reps K F xs ds)(e:xs[i]? =some x): ∃d,ds[i]? =some d/\Rep K F x d:=by
 have hl:=r.length;have hi:=(NY.mp e).1;have e2:ds[i]? =some ds[i]:=NL (by omega);obtain⟨y,h1,h2⟩:=r.get e2;rw[e] at h1;cases h1;exact⟨_,e2,h2⟩
theorem Reps.append: ∀ {xs ys:List V} {us ws:List D},Reps K F xs us->Reps K F ys ws->Reps K F (xs++ys) (us++ws)
 |_,_,_,_,.nil,s=>s
 |_,_,_,_,.cons r t,s=>.cons r (Reps.append t s)
theorem Reps.set {x:V}{u:D}(r:Rep K F x u): ∀ {xs:List V} {us:List D} (i:Nat),Reps K F xs us->Reps K F (xs.set i x) (us.set i u)
 |_,_,_,.nil=>.nil
 |_,_,0,.cons _ t=>.cons r t
 |_,_,i+1,.cons q t=>.cons q (Reps.set r i t)
theorem Reps.eraseIdx: ∀ {xs:List V} {us:List D} (i:Nat),Reps K F xs us->Reps K F (xs.eraseIdx i) (us.eraseIdx i)
 |_,_,_,.nil=>.nil
 |_,_,0,.cons _ t=>t
 |_,_,i+1,.cons q t=>.cons q (Reps.eraseIdx i t)
theorem Reps.reverse {xs:List V}{us:List D}(h:Reps K F xs us):Reps K F xs.reverse us.reverse:=by
 induction xs generalizing us with
 |nil=>cases h;exact .nil
 |cons x xs ih=>
  cases h with
  |cons r t=>simp only[TR];exact(ih t).append (.cons r .nil)
theorem Reps.take: ∀ {xs:List V} {us:List D} (n:Nat),Reps K F xs us->Reps K F (xs.take n) (us.take n)
 |_,_,0,_=>.nil
 |_,_,_+1,.nil=>.nil
 |_,_,n+1,.cons r t=>.cons r (Reps.take n t)
theorem Reps.drop: ∀ {xs:List V} {us:List D} (n:Nat),Reps K F xs us->Reps K F (xs.drop n) (us.drop n)
 |_,_,0,r=>r
 |_,_,_+1,.nil=>.nil
 |_,_,n+1,.cons _ t=>Reps.drop n t
end
abbrev bN:=Addr->Bool
def vw(H:Hp)(hid:bN):Hp:=λb=>if hid b=true then none else H b
def bc(hid:bN)(a:Addr):bN:=λb=>hid b||decide (b=a)
def wg(hid:bN)(a:Addr):bN:=λb=>hid b&& !decide (b=a)
theorem vw_some {H:Hp}{hid:bN}{b:Addr}{o:HO}:vw H hid b=some o↔hid b=false/\H b=some o:=by
 unfold vw;cases hb:hid b<;>simp
theorem di(H:Hp)(hid:bN):Same (vw H hid) H:=λb o h=>(vw_some.mp h).2
theorem aY {H H':Hp}{hid:bN}(s:Same H H'):Same (vw H hid) (vw H' hid):=λb o h=>vw_some.mpr ⟨(vw_some.mp h).1,s _ _ (vw_some.mp h).2⟩
theorem zy {H H':Hp}{hid:bN}(s: ∀b o,H b=some o->hid b=false->H' b=some o):Same (vw H hid) (vw H' hid):=λb o h=>vw_some.mpr ⟨(vw_some.mp h).1,s _ _ (vw_some.mp h).2 (vw_some.mp h).1⟩
theorem fX {H:Hp}{hid:bN}{a:Addr}{o:HO}(h:hid a=true):vw (cm H a o) hid=vw H hid:=by
 funext b;unfold vw cm
 by_cases e:b=a
 ·subst e;simp[h]
 ·simp[e]
theorem g8 {H:Hp}{hid hid':bN}(h: ∀b,hid' b=true->hid b=true):Same (vw H hid) (vw H hid'):=λb o q=>by
 obtain⟨q1,q2⟩:=vw_some.mp q;refine vw_some.mpr ⟨?_,q2⟩;cases e:hid' b with
 |false=>rfl
 |true=>rw[h b e] at q1;cases q1
theorem uH {H:Hp}{hid:bN}{a:Addr}{o:HO}(h:H a=none):vw (cm H a o) (bc hid a)=vw H hid:=by
 funext b;unfold vw cm bc
 by_cases e:b=a
 ·subst e;cases hb:hid b<;>simp[h]
 ·simp[e]
inductive NO where
 |l (ds:List D)
 |k (kvs:List (kZ×D))
inductive Ob where
 |nst (us:List NO)
 |dR (kvs:List (kZ×D))
 |dRs (l:List (List (kZ×D)))
 |exc (x:Str) (n:Int)
 |dK (kvs:List (kZ×D))
 |dT (kvs:List (List kZ×D))
 |set (ds:List D)
 |old (d:D)
 |jnk
 |tset (ks:List (List Int))
 |dF (kvs:List (List kZ×D))
 |dQ (kvs:List (List kZ×D))
 |frs (d:D)
inductive Sl where
 |no
 |v (d:D)
 |own (ds:List D)
 |arg (ds:List D)
 |ob (b:Ob)
abbrev aF:=List Sl
structure Ct where
 H₀:Hp
 hid₀:bN
 mu:Addr->Bool
def Lm(K:NU)(x:Str)(n:Int)(a:Addr)(h:Heap):Prop:= ∃C o,Sa K OR x=some (some (.ref C))/\h.get? a=some o/\o.cls=.ref C/\o.dict=none/\W.notCls o=true
def w6:Option HO->Bool
 |some (.lst _)=>true
 |_=>false
def fv(c:Ct)(F:Hp):Hp:=λb=>if(c.H₀ b).isSome=true/\w6 (F b)=true then none else F b
def ov(c:Ct)(F:Hp):Hp:=λb=>if(c.H₀ b).isSome=true then F b else none
theorem fv_some {c:Ct}{F:Hp}{b:Addr}{o:HO}:fv c F b=some o↔(w6 (some o)=true->c.H₀ b=none)/\F b=some o:=by
 unfold fv;constructor
 ·intro h;split at h
  ·cases h
  ·rename_i hn
   refine⟨λq=>?_,h⟩;rw[h] at hn;cases hb:c.H₀ b with
   |none=>rfl
   |some u=>exact absurd ⟨by rw[hb];rfl,q⟩ hn
 ·rintro⟨h1,h2⟩;rw[if_neg,h2];rintro⟨q1,q2⟩;rw[h2] at q2;rw[h1 q2] at q1;cases q1
theorem ov_some {c:Ct}{F:Hp}{b:Addr}{o:HO}:ov c F b=some o↔(∃u,c.H₀ b=some u)/\F b=some o:=by
 unfold ov;cases hb:c.H₀ b<;>simp
theorem Aa {c:Ct}{F G:Hp}(s:Same F G):Same (fv c F) (fv c G):=λb o h=>fv_some.mpr ⟨(fv_some.mp h).1,s _ _ (fv_some.mp h).2⟩
theorem F8 {c:Ct}{F G:Hp}(s:Same F G):Same (ov c F) (ov c G):=λb o h=>ov_some.mpr ⟨(ov_some.mp h).1,s _ _ (ov_some.mp h).2⟩
def NOk(K:NU)(c:Ct)(hid:bN)(H:Hp)(p a:Addr):NO->Prop
 | .l ds=>(hid a=true/\c.H₀ a=none)/\ ∃xs:List V,H a=some (.nst p (.lst xs))/\Reps K (vw H hid) xs ds
 | .k kvs=>(hid a=true/\c.H₀ a=none)/\ ∃us:List (kZ×V),H a=some (.nst p (.dK us))/\us.map (·.1)=kvs.map (·.1)/\Reps K (vw H hid) (us.map (·.2)) (kvs.map (·.2))
theorem NOk.mono {K:NU}{c:Ct}{hid hid':bN}{H H':Hp}{p a:Addr}{b:NO}(h:NOk K c hid H p a b)(k: ∀u,H a=some (.nst p u)->H' a=some (.nst p u))(s:Same (vw H hid) (vw H' hid'))(w:(∃u,H a=some (.nst p u))->hid' a=true):NOk K c hid' H' p a b:=by
 cases b with
 |l ds=>obtain⟨h1,us,h2,h3⟩:=h;exact⟨⟨w ⟨_,h2⟩,h1.2⟩,us,k _ h2,h3.mono s⟩
 |k kvs=>obtain⟨h1,us,h2,h3,h4⟩:=h;exact⟨⟨w ⟨_,h2⟩,h1.2⟩,us,k _ h2,h3,h4.mono s⟩
def DRd(K:NU)(W:Hp)(a:Addr)(kvs:List (kZ×D)):Prop:= ∃o us,W a=some (.frz o (.dK us))/\us.map (·.1)=kvs.map (·.1)/\Reps K W (us.map (·.2)) (kvs.map (·.2))
theorem DRd.mono {K:NU}{W W':Hp}{a:Addr}{kvs:List (kZ×D)}(h:DRd K W a kvs)(s:Same W W'):DRd K W' a kvs:=by
 obtain⟨o,us,h1,h2,h3⟩:=h;exact⟨o,us,s _ _ h1,h2,h3.mono s⟩
def DQd(K:NU)(W:Hp)(a:Addr)(kvs:List (List kZ×D)):Prop:= ∃o us,W a=some (.frz o (.dT us))/\us.map (·.1)=kvs.map (·.1)/\Reps K W (us.map (·.2)) (kvs.map (·.2))
theorem DQd.mono {K:NU}{W W':Hp}{a:Addr}{kvs:List (List kZ×D)}(h:DQd K W a kvs)(s:Same W W'):DQd K W' a kvs:=by
 obtain⟨o,us,h1,h2,h3⟩:=h;exact⟨o,us,s _ _ h1,h2,h3.mono s⟩
def ObOk(K:NU)(c:Ct)(hid:bN)(H:Hp)(a:Addr):Ob->Prop
 | .nst us=>(hid a=true/\c.H₀ a=none)/\ ∃bs:List Addr,H a=some (.lst (bs.map V.ref))/\bs.Nodup/\Paired (NOk K c hid H a) bs us
 | .dR kvs=>DRd K (vw H hid) a kvs
 | .dQ kvs=>DQd K (vw H hid) a kvs
 | .frs d=>Rep K (fv c (vw H hid)) (.ref a) d
 | .dRs l=> ∃bs:List Addr,vw H hid a=some (.lst (bs.map V.ref))/\Paired (DRd K (vw H hid)) bs l
 | .exc x n=> ∃φ,vw H hid a=some (.ext φ)/\ ∀h,φ h->Lm K x n a h
 | .dK kvs=>(hid a=true/\c.H₀ a=none)/\ ∃us:List (kZ×V),H a=some (.dK us)/\us.map (·.1)=kvs.map (·.1)/\Reps K (vw H hid) (us.map (·.2)) (kvs.map (·.2))
 | .dT kvs=>(hid a=true/\c.H₀ a=none)/\ ∃us:List (List kZ×V),H a=some (.dT us)/\us.map (·.1)=kvs.map (·.1)/\Reps K (vw H hid) (us.map (·.2)) (kvs.map (·.2))
 | .set ds=>(hid a=true/\c.H₀ a=none)/\ ∃xs:List V,H a=some (.lst xs)/\Reps K (fv c (vw H hid)) xs ds
 | .old d=>Rep K (ov c (vw H hid)) (.ref a) d
 | .jnk=>(hid a=true/\c.H₀ a=none)/\ ∃xs:List V,H a=some (.lst xs)
 | .tset ks=>(hid a=true/\c.H₀ a=none)/\ ∃xs:List (List Int×Addr),H a=some (.tst xs)/\(xs.map (·.1)).Perm ks/\Reps K (vw H hid) (xs.map λx=>V.ref x.2) (xs.map λx=>D.tup (x.1.map D.int))
 | .dF kvs=>(hid a=true/\c.H₀ a=none)/\ ∃(o:Obj) (us:List (List kZ×V)),H a=some (.frz o (.dT us))/\us.map (·.1)=kvs.map (·.1)/\Reps K (vw H hid) (us.map (·.2)) (kvs.map (·.2))
def s0:Ob->Prop
 | .exc _ _=>False
 | .old _=>False
 | .dR _=>False
 | .dRs _=>False
 | .dQ _=>False
 | .frs _=>False
 |_=>True
def At(H:Hp)(a x:Addr):Prop:=x=a\/ ∃u,H x=some (.nst a u)
theorem At.ne {H:Hp}{a a' x:Addr}{o:HO}(hx:At H a' x)(ne:a'≠a)(ha:H a=some o)(hn: ∀p u,o≠ .nst p u:=by intro _ _ e;cases e):x≠a:=λe=>by
 subst e;rcases hx with rfl|⟨u,hu⟩
 ·exact ne rfl
 ·rw[ha] at hu;cases hu;exact hn _ _ rfl
theorem ObOk.mono {K:NU}{c:Ct}{hid hid':bN}{H H':Hp}{a:Addr}{b:Ob}(h:ObOk K c hid H a b)(k:s0 b-> ∀x,At H a x-> ∀o,H x=some o->H' x=some o)(s:Same (vw H hid) (vw H' hid'))(w:s0 b-> ∀x,At H a x->hid x=true->hid' x=true):ObOk K c hid' H' a b:=by
 have k1:s0 b-> ∀o,H a=some o->H' a=some o:=λo=>k o a (.inl rfl)
 have w1:s0 b->hid a=true->hid' a=true:=λo=>w o a (.inl rfl)
 cases b with
 |nst us=>
  obtain⟨h1,bs,h2,h3,h4⟩:=h;refine⟨⟨w1 trivial h1.1,h1.2⟩,bs,k1 trivial _ h2,h3,Paired.mapP h4 λx y z=>z.mono (λu q=>k trivial x (.inr ⟨u,q⟩) _ q) s λq=>w trivial x (.inr q) ?_⟩;cases y with
  |l ds=>exact z.1.1
  |k kvs=>exact z.1.1
 |dR kvs=>exact DRd.mono h s
 |dQ kvs=>exact DQd.mono h s
 |frs d=>exact Rep.mono (Aa s) h
 |dRs l=>obtain⟨bs,h1,h2⟩:=h;exact⟨bs,s _ _ h1,Paired.mapP h2 λ_ _ z=>z.mono s⟩
 |exc x n=>obtain⟨φ,h1,h2⟩:=h;exact⟨φ,s _ _ h1,h2⟩
 |dK kvs=>obtain⟨h1,us,h2,h3,h4⟩:=h;exact⟨⟨w1 trivial h1.1,h1.2⟩,us,k1 trivial _ h2,h3,h4.mono s⟩
 |dT kvs=>obtain⟨h1,us,h2,h3,h4⟩:=h;exact⟨⟨w1 trivial h1.1,h1.2⟩,us,k1 trivial _ h2,h3,h4.mono s⟩
 |set ds=>obtain⟨h1,us,h2,h3⟩:=h;exact⟨⟨w1 trivial h1.1,h1.2⟩,us,k1 trivial _ h2,h3.mono (Aa s)⟩
 |old d=>exact Rep.mono (F8 s) h
 |jnk=>obtain⟨h1,us,h2⟩:=h;exact⟨⟨w1 trivial h1.1,h1.2⟩,us,k1 trivial _ h2⟩
 |tset ks=>obtain⟨h1,us,h2,h3,h4⟩:=h;exact⟨⟨w1 trivial h1.1,h1.2⟩,us,k1 trivial _ h2,h3,h4.mono s⟩
 |dF kvs=>obtain⟨h1,o,us,h2,h3,h4⟩:=h;exact⟨⟨w1 trivial h1.1,h1.2⟩,o,us,k1 trivial _ h2,h3,h4.mono s⟩
theorem ObOk.hid {K:NU}{c:Ct}{hid:bN}{H:Hp}{a:Addr}{b:Ob}(h:ObOk K c hid H a b)(o:s0 b):hid a=true:=by
 cases b with
 |nst us=>exact h.1.1
 |dQ kvs=>exact o.elim
 |frs d=>exact o.elim
 |dR kvs=>exact o.elim
 |dRs l=>exact o.elim
 |exc x n=>exact o.elim
 |dK kvs=>exact h.1.1
 |dT kvs=>exact h.1.1
 |set ds=>exact h.1.1
 |old d=>exact o.elim
 |jnk=>exact h.1.1
 |tset ks=>exact h.1.1
 |dF kvs=>exact h.1.1
def SlOk(K:NU)(c:Ct)(hid:bN)(σ:St)(H:Hp)(i:Nat):Sl->Prop
 | .no=>True
 | .v d=> ∃x,σ[i]? =some (some x)/\Rep K (vw H hid) x d
 | .own ds=> ∃a xs,σ[i]? =some (some (.ref a))/\H a=some (.lst xs)/\hid a=true/\c.H₀ a=none/\Reps K (vw H hid) xs ds
 | .arg ds=> ∃a xs,σ[i]? =some (some (.ref a))/\H a=some (.lst xs)/\hid a=true/\c.mu a=true/\Reps K (vw H hid) xs ds
 | .ob b=> ∃a,σ[i]? =some (some (.ref a))/\ObOk K c hid H a b
def Ow:Option Sl->Prop
 |some (.own _)=>True
 |some (.arg _)=>True
 |some (.ob b)=>s0 b
 |_=>False
structure SR(K:NU)(c:Ct)(hid:bN)(ρ:aF)(σ:St)(H:Hp):Prop where
 tr: ∀b,hid b=true-> ∃o,H b=some o
 ht: ∀b xs,hid b=true->H b≠some (.tup xs)
 h0: ∀b,c.hid₀ b=true->hid b=true
 kp: ∀b o,c.H₀ b=some o->c.mu b=false->H b=some o
 t0: ∀b o,c.H₀ b=some o-> ∃o',H b=some o'
 c0: ∀b,c.hid₀ b=true-> ∃o,c.H₀ b=some o
 m0: ∀b,c.mu b=true->c.hid₀ b=true
 len:σ.length=ρ.length
 sl: ∀(i:Nat) (s:Sl),ρ[i]? =some s->SlOk K c hid σ H i s
 ap: ∀(i j:Nat) (a:Addr),i≠j->Ow ρ[i]? ->Ow ρ[j]? ->σ[i]? =some (some (.ref a))->σ[j]? =some (some (.ref a))->False
section
variable {K:NU}{c:Ct}{hid:bN}{ρ:aF}{σ:St}{H H':Hp}{i:Nat}
theorem SlOk.ext {s:Sl}(h:SlOk K c hid σ H i s)(e:Same H H'):SlOk K c hid σ H' i s:=by
 cases s with
 |no=>trivial
 |v d=>obtain⟨x,h1,h2⟩:=h;exact⟨x,h1,h2.mono (aY e)⟩
 |own ds=>obtain⟨a,xs,h1,h2,h3,h4,h5⟩:=h;exact⟨a,xs,h1,e _ _ h2,h3,h4,h5.mono (aY e)⟩
 |arg ds=>obtain⟨a,xs,h1,h2,h3,h4,h5⟩:=h;exact⟨a,xs,h1,e _ _ h2,h3,h4,h5.mono (aY e)⟩
 |ob b=>obtain⟨a,h1,h2⟩:=h;exact⟨a,h1,h2.mono (λ_ x _=>e x) (aY e) λ_ _ _ q=>q⟩
theorem SR.ext(h:SR K c hid ρ σ H)(e:Same H H'):SR K c hid ρ σ H' where
 tr:=λb hb=>let⟨o,q⟩:=h.tr b hb;⟨o,e _ _ q⟩
 ht:=λb xs hb q=>let⟨o,w⟩:=h.tr b hb;by have z:=e _ _ w;rw[q] at z;cases z;exact h.ht b xs hb w
 h0:=h.h0
 kp:=λb o q m=>e _ _ (h.kp b o q m)
 t0:=λb o q=>let⟨o',q'⟩:=h.t0 b o q;⟨o',e _ _ q'⟩
 c0:=h.c0
 m0:=h.m0
 len:=h.len
 sl:=λi s q=>(h.sl i s q).ext e
 ap:=h.ap
def Ka(hid:bN)(H:Hp):Prop:=(∀b,hid b=true-> ∃o,H b=some o)/\ ∀b xs,hid b=true->H b≠some (.tup xs)
theorem SR.trk(h:SR K c hid ρ σ H):Ka hid H:=⟨h.tr,h.ht⟩
theorem SR.fresh(h:SR K c hid ρ σ H){a:Addr}(n:H a=none):hid a=false:=by
 cases e:hid a with
 |false=>rfl
 |true=>obtain⟨o,q⟩:=h.tr a e;rw[n] at q;cases q
theorem SR.fresh0(h:SR K c hid ρ σ H){a:Addr}(n:H a=none):c.H₀ a=none:=by
 cases e:c.H₀ a with
 |none=>rfl
 |some o=>obtain⟨o',q⟩:=h.t0 a o e;rw[n] at q;cases q
end
inductive Kd where
 |b|s|n
 deriving DecidableEq
def Rep1(K:NU)(H W:Hp)(v:V)(d:D):Prop:=Rep K W v d\/ ∃a xs ds,v=.ref a/\d=.lst ds/\H a=some (.lst xs)/\Reps K W xs ds
def RN(K:NU)(H H':Hp)(hid:bN)(v:V)(d:D):Prop:= ∃a xs ds,d=.lst ds/\v=.ref a/\H a=none/\H' a=some (.lst xs)/\Reps K (vw H' (bc hid a)) xs ds
def RK(K:NU)(k:Kd)(H H':Hp)(hid:bN)(v:V)(d:D):Prop:=match k with
 | .b=>Rep1 K H' (vw H' hid) v d
 | .s=>Rep K (vw H' hid) v d
 | .n=>RN K H H' hid v d
section
variable {K:NU}{c:Ct}{hid:bN}{ρ:aF}{σ:St}{H H' H'':Hp}{i:Nat}{v:V}{d:D}
theorem RN.rep(h:RN K H H' hid v d)(hf: ∀a,H a=none->hid a=false):Rep K (vw H' hid) v d:=by
 obtain⟨a,xs,ds,rfl,rfl,h1,h2,h3⟩:=h;refine .lst (vw_some.mpr ⟨hf a h1,h2⟩) (h3.mono (g8 λb q=>?_));unfold bc;rw[q];rfl
theorem RK.b(k:Kd)(h:RK K k H H' hid v d)(hf: ∀a,H a=none->hid a=false):Rep1 K H' (vw H' hid) v d:=by
 cases k with
 |b=>exact h
 |s=>exact .inl h
 |n=>exact .inl (RN.rep h hf)
theorem Rep1.ext {hid:bN}(h:Rep1 K H (vw H hid) v d)(e:Same H H'):Rep1 K H' (vw H' hid) v d:=by
 rcases h with h|⟨a,xs,ds,h1,h2,h3,h4⟩
 ·exact .inl (h.mono (aY e))
 ·exact .inr ⟨a,xs,ds,h1,h2,e _ _ h3,h4.mono (aY e)⟩
theorem Rep1.int {i:Int}(h:Rep1 K H (vw H hid) v (.int i)):v=.int i:=by
 rcases h with h|⟨a,xs,ds,h1,h2,_⟩
 ·cases h;rfl
 ·cases h2
theorem Rep1.bl {i:Bool}(h:Rep1 K H (vw H hid) v (.bl i)):v=.bl i:=by
 rcases h with h|⟨a,xs,ds,h1,h2,_⟩
 ·cases h;rfl
 ·cases h2
theorem Rep1.str {i:Str}(h:Rep1 K H (vw H hid) v (.str i)):v=.str i:=by
 rcases h with h|⟨a,xs,ds,h1,h2,_⟩
 ·cases h;rfl
 ·cases h2
theorem Rep1.non(h:Rep1 K H (vw H hid) v .non):v=.non:=by
 rcases h with h|⟨a,xs,ds,h1,h2,_⟩
 ·cases h;rfl
 ·cases h2
theorem Rep1.tup {ds:List D}(h:Rep1 K H (vw H hid) v (.tup ds)): ∃a xs,v=.ref a/\SqT K (vw H hid) a xs/\SqT K H a xs/\Reps K (vw H hid) xs ds:=by
 rcases h with h|⟨a,xs,ds,h1,h2,_⟩
 ·cases h with
  |tup q r=>exact⟨_,_,rfl,q,Same.seqT (di _ _) q,r⟩
 ·cases h2
theorem Rep1.lst {ds:List D}(h:Rep1 K H (vw H hid) v (.lst ds)): ∃a xs,v=.ref a/\SqL K H a xs/\Reps K (vw H hid) xs ds:=by
 rcases h with h|⟨a,xs,ds,h1,h2,h3,h4⟩
 ·cases h with
  |lst q r=>exact⟨_,_,rfl,SqL.of (di _ _ _ _ q),r⟩
 ·cases h2;exact⟨a,xs,h1,SqL.of h3,h4⟩
theorem Rep1.scr {ds:List D}(h:Rep1 K H (vw H hid) v (.scr ds)): ∃a xs,v=.ref a/\SqL K H a xs/\Reps K (vw H hid) xs ds:=by
 rcases h with h|⟨a,xs,ds,h1,h2,h3,h4⟩
 ·cases h with
  |scr q r=>exact⟨_,_,rfl,(di _ _).seq q.seq,r⟩
 ·cases h2
end
theorem PE.imp {X:Cx}{e:Expr}{t t':TE}(h:PE X e t)(i: ∀σ H Q,t' σ H Q->t σ H Q):PE X e t':=λah s σ H Q I q=>h ah s σ H Q I (i σ H Q q)
theorem PT.imp {X:Cx}{e:Expr}{t t':TT}(h:PT X e t)(i: ∀σ H Q,t' σ H Q->t σ H Q):PT X e t':=λah s σ H Q I q=>h ah s σ H Q I (i σ H Q q)
theorem PW.imp {X:Cx}{e:Expr}{t t':TT}(h:PW X e t)(i: ∀σ H Q,t' σ H Q->t σ H Q):PW X e t':=λwh ah s σ H Q I q=>h wh ah s σ H Q I (i σ H Q q)
theorem PA.imp {X:Cx}{e:List Expr}{t t':TA}(h:PA X e t)(i: ∀σ H Q,t' σ H Q->t σ H Q):PA X e t':=λp ah s σ H Q I q=>h p ah s σ H Q I (i σ H Q q)
theorem PS.imp {X:Cx}{e:Stmt}{t t':TS}(h:PS X e t)(i: ∀D σ H,t' D σ H->t D σ H):PS X e t':=λah s σ H D I q=>h ah s σ H D I (i D σ H q)
theorem PSs.imp {X:Cx}{e:List Stmt}{t t':TS}(h:PSs X e t)(i: ∀D σ H,t' D σ H->t D σ H):PSs X e t':=λah s σ H D I q=>h ah s σ H D I (i D σ H q)
abbrev FE:=aF->Option D
abbrev FT:=aF->Option Bool
abbrev FA:=aF->Option (List D)
def Fj(K:NU)(c:Ct)(hid:bN)(k:Kd)(f:FE)(ρ:aF):TE:=λσ H Q=>SR K c hid ρ σ H/\ ∃d,f ρ=some d/\ ∀v H',Same H H'->RK K k H H' hid v d->Q v H'
def MD(K:NU)(c:Ct)(hid:bN)(f:FT)(ρ:aF):TT:=λσ H Q=>SR K c hid ρ σ H/\ ∃d,f ρ=some d/\ ∀H',Same H H'->Q d H'
def Nw(K:NU)(c:Ct)(hid:bN)(f:FA)(ρ:aF):TA:=λσ H Q=>SR K c hid ρ σ H/\ ∃d,f ρ=some d/\ ∀vs H',Same H H'->Reps K (vw H' hid) vs d->Q vs H'
def DP(X:Cx)(c:Ct)(k:Kd)(e:Expr)(f:FE):Prop:= ∀hid ρ,PE X e (Fj X.K c hid k f ρ)
def DT(X:Cx)(c:Ct)(e:Expr)(f:FT):Prop:= ∀hid ρ,PT X e (MD X.K c hid f ρ)
def DW(X:Cx)(c:Ct)(e:Expr)(f:FT):Prop:= ∀hid ρ,PW X e (MD X.K c hid f ρ)
def DA(X:Cx)(c:Ct)(es:List Expr)(f:FA):Prop:= ∀hid ρ,PA X es (Nw X.K c hid f ρ)
section
variable {X:Cx}{c:Ct}{e a b:Expr}{es:List Expr}{f g:FE}{k:Kd}{pos:Pos}
theorem DP.toS(h:DP X c .n e f):DP X c .s e f:=λhid ρ=>PE.imp (h hid ρ) λσ H Q ⟨sr,d,hd,q⟩=>⟨sr,d,hd,λv H' s r=>q v H' s (RN.rep r λa n=>sr.fresh n)⟩
def ai(i:Nat):FE:=λρ=>match ρ[i]? with
 |some (.v d)=>some d
 |_=>none
def eB(i:Nat):FE:=λρ=>match ρ[i]? with
 |some (.v d)=>some d
 |some (.own ds)=>some (.lst ds)
 |some (.arg ds)=>some (.lst ds)
 |_=>none
theorem af(i:Nat){x:Str}(hN:X.N[i]? =some x:=by rfl)(hv:xG X.env.scope x:=by first|exact P7 rfl|exact Pi (P7 rfl)|exact Pi (Pi rfl))(hd:(x==("__debug__":Str))=false:=by decide)
 (hcd:(x==("__classdict__":Str))=false:=by decide):DP X c .s (.Name x pos) (ai i):=λhid ρ=>PE.imp (pv i hN hv hd hcd) λσ H Q hq_=>by
 obtain⟨sr,d,hd,q⟩:=hq_;unfold ai at hd;split at hd
 ·rename_i d' e'
  cases hd;obtain⟨x,h1,h2⟩:=sr.sl i _ e';exact⟨x,h1,q x H (Same.refl _) h2⟩
 ·cases hd
theorem fu(i:Nat){x:Str}(hN:X.N[i]? =some x:=by rfl)(hv:xG X.env.scope x:=by first|exact P7 rfl|exact Pi (P7 rfl)|exact Pi (Pi rfl))(hd:(x==("__debug__":Str))=false:=by decide)
 (hcd:(x==("__classdict__":Str))=false:=by decide):DP X c .b (.Name x pos) (eB i):=λhid ρ=>PE.imp (pv i hN hv hd hcd) λσ H Q hq_=>by
 obtain⟨sr,d,hd,q⟩:=hq_;unfold eB at hd;split at hd
 ·rename_i d' e'
  cases hd;obtain⟨x,h1,h2⟩:=sr.sl i _ e';exact⟨x,h1,q x H (Same.refl _) (.inl h2)⟩
 ·rename_i d' e'
  cases hd;obtain⟨a,xs,h1,h2,h3,h4,h5⟩:=sr.sl i _ e';exact⟨_,h1,q _ H (Same.refl _) (.inr ⟨a,xs,_,rfl,rfl,h2,h5⟩)⟩
 ·rename_i d' e'
  cases hd;obtain⟨a,xs,h1,h2,h3,h4,h5⟩:=sr.sl i _ e';exact⟨_,h1,q _ H (Same.refl _) (.inr ⟨a,xs,_,rfl,rfl,h2,h5⟩)⟩
 ·cases hd
def aD(d:D):FE:=λ_=>some d
theorem av {i:Int}{j pos}:DP X c .s (.Constant (.int i) j pos) (aD (.int i)):=λhid ρ=>PE.imp JA λσ H Q hq_=>by
 obtain⟨sr,d,hd,q⟩:=hq_;cases hd;exact q _ H (Same.refl _) .int
theorem nE {i:Bool}{j pos}:DP X c .s (.Constant (.bool i) j pos) (aD (.bl i)):=λhid ρ=>PE.imp Ky λσ H Q hq_=>by
 obtain⟨sr,d,hd,q⟩:=hq_;cases hd;exact q _ H (Same.refl _) .bl
def aw(F:D->D->Option D)(f g:FE):FE:=λρ=>(f ρ).bind λx=>(g ρ).bind λy=>F x y
theorem wl {F:D->D->Option D}{ρ:aF}{d:D}(h:aw F f g ρ=some d): ∃x y,f ρ=some x/\g ρ=some y/\F x y=some d:=by
 unfold aw at h;cases e1:f ρ with
 |none=>rw[e1] at h;cases h
 |some x=>
  cases e2:g ρ with
  |none=>rw[e1,e2] at h;cases h
  |some y=>rw[e1,e2] at h;exact⟨x,y,rfl,rfl,h⟩
def oY(K:NU)(k:Kd)(r:R2)(F:D->D->Option D):Prop:= ∀(H:Hp) (hid:bN) (v u:V) (x y d:D) (Q:VK),(∀a,H a=none->hid a=false)->F x y=some d->Rep1 K H (vw H hid) v x->Rep1 K H (vw H hid) u y->
 (∀w H',Same H H'->RK K k H H' hid w d->Q w H')->r v u H Q
theorem RK.left {K:NU}{H H1 H':Hp}{hid:bN}{v:V}{d:D}(s:Same H H1)(h:RK K k H1 H' hid v d):RK K k H H' hid v d:=by
 cases k with
 |b=>exact h
 |s=>exact h
 |n=>
  obtain⟨a,xs,ds,h1,h2,h3,h4⟩:=h;exact⟨a,xs,ds,h1,h2,s.free h3,h4⟩
theorem LS {r:R2}{F:D->D->Option D}{k1 k2:Kd}{hid:bN}{ρ:aF}(hF:oY X.K k r F){σ:St}{H:Hp}{Q:VK}(h:Fj X.K c hid k (aw F f g) ρ σ H Q):J5 r (Fj X.K c hid k1 f ρ) (Fj X.K c hid k2 g ρ) σ H Q:=by
 obtain⟨sr,d,hd,q⟩:=h;obtain⟨x,y,e1,e2,e3⟩:=wl hd;refine⟨sr,x,e1,λv H1 s1 r1=>⟨sr.ext s1,y,e2,λu H2 s2 r2=>?_⟩⟩;have b1:=(RK.b k1 r1 λa n=>sr.fresh n).ext s2;have b2:=RK.b k2 r2 λa n=>(sr.ext s1).fresh n
 exact hF H2 hid v u x y d Q (λa n=>((sr.ext s1).ext s2).fresh n) e3 b1 b2 λw H' s3 r3=>q w H' ((s1.trans s2).trans s3) (RK.left (s1.trans s2) r3)
theorem qB {op:Xi}{r:R2}{F:D->D->Option D}{k1 k2:Kd}(ho:lv X (SN op) r)(hF:oY X.K k r F)(ha:DP X c k1 a f)(hb:DP X c k2 b g):DP X c k (.BinOp a op b pos) (aw F f g):=λhid ρ=>
 PE.imp (Kb ho (ha hid ρ) (hb hid ρ)) λσ H Q h=>LS hF h
theorem qE {op:VD}{r:R2}{F:D->D->Option D}{k1 k2:Kd}(ho:lv X (Px op) r)(hF:oY X.K .s r F)(ha:DP X c k1 a f)(hb:DP X c k2 b g)(hm:QW op b=false):DP X c .s (.Compare a [op] [b] pos) (aw F f g):=λhid ρ=>
 PE.imp (Gm ho (ha hid ρ) (hb hid ρ) hm) λσ H Q h=>LS hF h
def BA:Option D->Option Bool
 |some (.bl b)=>some b
 |_=>none
theorem bX {op:VD}{r:R2}{F:D->D->Option D}{k1 k2:Kd}(ho:lv X (Px op) r)(hF:oY X.K .s r F)(ha:DP X c k1 a f)(hb:DP X c k2 b g)(hm:QW op b=false):DT X c (.Compare a [op] [b] pos) (λρ=>BA (aw F f g ρ)):=λhid ρ=>
 PT.imp (GW ho (ha hid ρ) (hb hid ρ) hm) λσ H Q hq_=>by
  obtain⟨sr,d,hd,q⟩:=hq_;refine LS (X:=X) (k:=.s) (F:=F) hF ?_
  dsimp only at hd;cases e:aw F f g ρ with
  |none=>rw[e] at hd;cases hd
  |some x=>
   rw[e] at hd;cases x with
   |bl z=>
    cases hd;refine⟨sr,_,e,λv H' s r=>⟨d,?_,q H' s⟩⟩;cases r;rfl
   |_=>cases hd
theorem a7 {r:R2}{F:D->D->Option D}{k1 k2:Kd}(hr:IxR X r)(hF:oY X.K k r F)(ha:DP X c k1 a f)(hb:DP X c k2 b g)(hs:tP b):DP X c k (.Subscript a b pos) (aw F f g):=λhid ρ=>
 PE.imp (HN hr (ha hid ρ) (hb hid ρ) hs) λσ H Q h=>LS hF h
end
def i2(C:Int->Int->Bool)(G:Int->Int->D):D->D->Option D
 | .int i,.int j=>if C i j=true then some (G i j) else none
 |_,_=>none
section
variable {K:NU}
theorem pr {C:Int->Int->Bool}{G:Int->Int->D}{x y d:D}(h:i2 C G x y=some d): ∃i j,x=.int i/\y=.int j/\C i j=true/\d=G i j:=by
 unfold i2 at h;split at h
 ·split at h
  ·cases h;exact⟨_,_,rfl,rfl, ‹_›,rfl⟩
  ·cases h
 ·cases h
theorem Go {C:Int->Int->Prop}{B:Int->Int->Bool}{g:Int->Int->Int}(hC: ∀i j,B i j=true->C i j):oY K .s (rI C λi j=>.int (g i j)) (i2 B λi j=>.int (g i j)):=by
 intro H hid v u x y d Q hf h r1 r2 q;obtain⟨i,j,rfl,rfl,hc,rfl⟩:=pr h;cases r1.int;cases r2.int;exact⟨i,j,rfl,rfl,hC i j hc,q _ H (Same.refl _) .int⟩
theorem HM {g:Int->Int->Int}:oY K .s (FZ λi j=>.int (g i j)) (i2 (λ_ _=>true) λi j=>.int (g i j)):=by
 intro H hid v u x y d Q hf h r1 r2 q;obtain⟨i,j,rfl,rfl,hc,rfl⟩:=pr h;cases r1.int;cases r2.int;exact⟨i,j,rfl,rfl,q _ H (Same.refl _) .int⟩
theorem oP {g:Int->Int->Bool}:oY K .s (FZ λi j=>.bl (g i j)) (i2 (λ_ _=>true) λi j=>.bl (g i j)):=by
 intro H hid v u x y d Q hf h r1 r2 q;obtain⟨i,j,rfl,rfl,hc,rfl⟩:=pr h;cases r1.int;cases r2.int;exact⟨i,j,rfl,rfl,q _ H (Same.refl _) .bl⟩
end
section
variable {X:Cx}{c:Ct}{e a b:Expr}{es rest:List Expr}{f g:FE}{p q:FT}{k:Kd}{pos:Pos}
def KB:D->Option Bool
 | .non=>some false
 | .bl b=>some b
 | .int i=>some (i !=0)
 | .str y=>if y.length<=Oi then some ((y.length:Int) !=0) else none
 | .lst ds=>some (!ds.isEmpty)
 | .tup ds=>some (!ds.isEmpty)
 | .scr ds=>some (!ds.isEmpty)
theorem Reps.isEmpty {K:NU}{F:Hp}{xs:List V}{ds:List D}(r:Reps K F xs ds):xs.isEmpty=ds.isEmpty:=by cases r<;>rfl
theorem ID {K:NU}{H:Hp}{hid:bN}{v:V}{d:D}{b:Bool}(h:KB d=some b)(r:Rep1 K H (vw H hid) v d):IP K v H b:=by
 cases d with
 |non=>cases r.non;cases h;rfl
 |bl x=>cases r.bl;cases h;rfl
 |int i=>cases r.int;cases h;rfl
 |str y=>
  cases r.str;have h':(if y.length<=Oi then some ((y.length:Int) !=0) else none)=some b:=h;split at h'
  ·cases h';exact⟨‹_›,rfl⟩
  ·cases h'
 |lst ds=>
  obtain⟨a,xs,rfl,h1,h2⟩:=r.lst;cases h;exact .inl ⟨xs,h1,by rw[h2.isEmpty]⟩
 |tup ds=>
  obtain⟨a,xs,rfl,_,h1,h2⟩:=r.tup;cases h;exact .inr (.inl ⟨xs,h1,by rw[h2.isEmpty]⟩)
 |scr ds=>
  obtain⟨a,xs,rfl,h1,h2⟩:=r.scr;cases h;exact .inl ⟨xs,h1,by rw[h2.isEmpty]⟩
def fA(f:FE):FT:=λρ=>(f ρ).bind KB
theorem jE(ha:DP X c k a f)(he: ∀whole,isTrue a X.env whole=(do let v <-whole;TL a.pos;TJ [v] (truthy v)):=by intro _;rfl):DT X c a (fA f):=λhid ρ=>
 PT.imp (Ez (ha hid ρ) he) λσ H Q hq_=>by
  obtain⟨sr,d,hd,q⟩:=hq_;unfold fA at hd;cases e:f ρ with
  |none=>rw[e] at hd;cases hd
  |some x=>
   rw[e] at hd;exact⟨sr,x,e,λv H' s r=>⟨d,ID hd (RK.b k r λa n=>sr.fresh n),q H' s⟩⟩
def gW(p q:FT):FT:=λρ=>(p ρ).bind λb=>if b=true then q ρ else some false
def EK(p q:FT):FT:=λρ=>(p ρ).bind λb=>if b=true then some true else q ρ
def jj(p:FT):FT:=λρ=>(p ρ).map (!·)
theorem ph(ha:DT X c a p):DW X c (.BoolOp .And [a] pos) p:=λhid ρ=>pw_and1 (ha hid ρ)
theorem Dc(ha:DT X c a p):DW X c (.BoolOp .Or [a] pos) p:=λhid ρ=>pw_or1 (ha hid ρ)
theorem uQ(ha:DT X c a p)(hb:DW X c (.BoolOp .And (b::rest) pos) q):DW X c (.BoolOp .And (a::b::rest) pos) (gW p q):=λhid ρ=>
 PW.imp (pw_and (ha hid ρ) (hb hid ρ)) λσ H Q hq_=>by
  obtain⟨sr,d,hd,hq⟩:=hq_;unfold gW at hd;cases e:p ρ with
  |none=>rw[e] at hd;cases hd
  |some x=>
   rw[e] at hd;refine⟨sr,x,e,λH1 s1=>?_⟩;cases x with
   |true=>exact xz ⟨sr.ext s1,d,hd,λH2 s2=>hq H2 (s1.trans s2)⟩
   |false=>cases hd;exact yk (hq H1 s1)
theorem HB(ha:DT X c a p)(hb:DW X c (.BoolOp .Or (b::rest) pos) q):DW X c (.BoolOp .Or (a::b::rest) pos) (EK p q):=λhid ρ=>
 PW.imp (pw_or (ha hid ρ) (hb hid ρ)) λσ H Q hq_=>by
  obtain⟨sr,d,hd,hq⟩:=hq_;unfold EK at hd;cases e:p ρ with
  |none=>rw[e] at hd;cases hd
  |some x=>
   rw[e] at hd;refine⟨sr,x,e,λH1 s1=>?_⟩;cases x with
   |false=>exact yk ⟨sr.ext s1,d,hd,λH2 s2=>hq H2 (s1.trans s2)⟩
   |true=>cases hd;exact xz (hq H1 s1)
theorem DW.dt(h:DW X c e p):DT X c e p:=λhid ρ=>(h hid ρ).pt
theorem um(ha:DT X c a p):DT X c (.UnaryOp .Not a pos) (jj p):=λhid ρ=>
 PT.imp (II (ha hid ρ)) λσ H Q hq_=>by
  obtain⟨sr,d,hd,hq⟩:=hq_;unfold jj at hd;cases e:p ρ with
  |none=>rw[e] at hd;cases hd
  |some x=>rw[e] at hd;cases hd;exact⟨sr,x,e,λH1 s1=>hq H1 s1⟩
def Av(p:FT):FE:=λρ=>(p ρ).map D.bl
def bQ(f:FE):FT:=λρ=>BA (f ρ)
theorem mB {ρ:aF}{b:Bool}(h:bQ f ρ=some b):f ρ=some (.bl b):=by
 unfold bQ BA at h;split at h
 ·cases h;assumption
 ·cases h
theorem EN(ha:DP X c .s a f)(hb:DP X c .s (.BoolOp .And (b::rest) pos) g):DP X c .s (.BoolOp .And (a::b::rest) pos) (Av (gW (bQ f) (bQ g))):=λhid ρ=>
 PE.imp (Ic (ha hid ρ) (hb hid ρ)) λσ H Q hq_=>by
  obtain⟨sr,d,hd,hq⟩:=hq_;unfold Av gW at hd;cases e:bQ f ρ with
  |none=>rw[e] at hd;cases hd
  |some x=>
   rw[e] at hd;refine⟨sr,_,mB e,λv H1 s1 r=>?_⟩;cases r;refine⟨x,rfl,?_⟩;cases x with
   |true=>
    refine xz ?_
    cases e2:bQ g ρ with
    |none=>rw[show(some true:Option Bool).bind (λb=>if b=true then bQ g ρ else some false)=bQ g ρ from rfl,e2] at hd;cases hd
    |some y=>
     rw[show(some true:Option Bool).bind (λb=>if b=true then bQ g ρ else some false)=bQ g ρ from rfl,e2] at hd;cases hd;exact⟨sr.ext s1,_,mB e2,λv2 H2 s2 r2=>hq v2 H2 (s1.trans s2) r2⟩
   |false=>cases hd;exact yk (hq _ H1 s1 .bl)
theorem Di {op}(h:DP X c k a f):DP X c k (.BoolOp op [a] pos) f:=λhid ρ=>Jr (h hid ρ)
theorem yr(ha:DP X c .s a f):DP X c .s (.UnaryOp .Not a pos) (Av (jj (bQ f))):=λhid ρ=>
 PE.imp (IV (ha hid ρ)) λσ H Q hq_=>by
  obtain⟨sr,d,hd,hq⟩:=hq_;unfold Av jj at hd;cases e:bQ f ρ with
  |none=>rw[e] at hd;cases hd
  |some x=>
   rw[e] at hd;cases hd;refine⟨sr,_,mB e,λv H1 s1 r=>?_⟩;cases r;exact⟨x,rfl,hq _ H1 s1 .bl⟩
def Hn(p:FT)(f g:FE):FE:=λρ=>(p ρ).bind λb=>if b=true then f ρ else g ρ
theorem Ks {t:Expr}(hk:k≠ .n)(ht:DT X c t p)(ha:DP X c k a f)(hb:DP X c k b g):DP X c k (.IfExp t a b pos) (Hn p f g):=λhid ρ=>
 PE.imp (EW (ht hid ρ) (ha hid ρ) (hb hid ρ)) λσ H Q hq_=>by
  obtain⟨sr,d,hd,hq⟩:=hq_;unfold Hn at hd;cases e:p ρ with
  |none=>rw[e] at hd;cases hd
  |some x=>
   rw[e] at hd;refine⟨sr,x,e,λH1 s1=>?_⟩;have lf: ∀ {v H2},RK X.K k H1 H2 hid v d->RK X.K k H H2 hid v d:=λ{v H2} r=>RK.left s1 r
   cases x with
   |true=>exact xz ⟨sr.ext s1,d,hd,λv H2 s2 r=>hq v H2 (s1.trans s2) (lf r)⟩
   |false=>exact yk ⟨sr.ext s1,d,hd,λv H2 s2 r=>hq v H2 (s1.trans s2) (lf r)⟩
variable {r r':R2}{h:FE}{e3:Expr}
def Ei(F G:D->D->Option D)(f g h:FE):FE:=λρ=>(f ρ).bind λx=>(g ρ).bind λy=>(BA (F x y)).bind λk=>if k=true then(h ρ).bind λz=>G y z else some (.bl false)
theorem ED {F G:D->D->Option D}{k1 k2 k3:Kd}{hid:bN}{ρ:aF}(hF:oY X.K .s r F)(hG:oY X.K .s r' G){σ:St}{H:Hp}{Q:VK}(hh:Fj X.K c hid .s (Ei F G f g h) ρ σ H Q):
 x0 r r' (Fj X.K c hid k1 f ρ) (Fj X.K c hid k2 g ρ) (Fj X.K c hid k3 h ρ) σ H Q:=by
 obtain⟨sr,d,hd,q⟩:=hh;unfold Ei at hd;cases e1:f ρ with
 |none=>rw[e1] at hd;cases hd
 |some x=>
  cases e2:g ρ with
  |none=>rw[e1,e2] at hd;cases hd
  |some y=>
   rw[e1,e2] at hd;have hd':(BA (F x y)).bind (λk=>if k=true then(h ρ).bind λz=>G y z else some (.bl false))=some d:=hd;cases e3:F x y with
   |none=>rw[e3] at hd';cases hd'
   |some z=>
    cases z with
    |bl kk=>
     rw[e3] at hd';refine⟨sr,x,e1,λv H1 s1 r1=>⟨sr.ext s1,y,e2,λu H2 s2 r2=>?_⟩⟩;have b1:=(RK.b k1 r1 λa n=>sr.fresh n).ext s2;have b2:=RK.b k2 r2 λa n=>(sr.ext s1).fresh n
     have fr: ∀a,H2 a=none->hid a=false:=λa n=>((sr.ext s1).ext s2).fresh n
     refine hF H2 hid v u x y _ _ fr e3 b1 b2 λw H3 s3 r3=>?_
     cases r3;refine⟨kk,rfl,?_⟩;cases kk with
     |false=>cases hd';exact yk (q _ H3 ((s1.trans s2).trans s3) .bl)
     |true=>
      refine xz ?_
      cases e4:h ρ with
      |none=>rw[e4] at hd';cases hd'
      |some z=>
       rw[e4] at hd';have hd2:G y z=some d:=hd';refine⟨((sr.ext s1).ext s2).ext s3,z,e4,λw' H4 s4 r4=>?_⟩;have b3:=RK.b k3 r4 λa n=>(((sr.ext s1).ext s2).ext s3).fresh n
       exact hG H4 hid u w' y z d Q (λa n=>((((sr.ext s1).ext s2).ext s3).ext s4).fresh n) hd2 ((b2.ext s3).ext s4) b3 λw2 H5 s5 r5=>q w2 H5 ((((s1.trans s2).trans s3).trans s4).trans s5) r5
    |_=>rw[e3] at hd';cases hd'
theorem K9 {op op':VD}{F G:D->D->Option D}{k1 k2 k3:Kd}(ho:lv X (Px op) r)(ho':lv X (Px op') r')(hF:oY X.K .s r F)(hG:oY X.K .s r' G)(ha:DP X c k1 a f)(hb:DP X c k2 b g)(hc:DP X c k3 e3 h)
 (hm:Wy [op,op'] [b,e3]=false:=by with_unfolding_all rfl):DP X c .s (.Compare a [op,op'] [b,e3] pos) (Ei F G f g h):=λhid ρ=>
 PE.imp (C0 ho ho' (ha hid ρ) (hb hid ρ) (hc hid ρ) hm) λσ H Q hh=>ED hF hG hh
theorem K5 {op op':VD}{F G:D->D->Option D}{k1 k2 k3:Kd}(ho:lv X (Px op) r)(ho':lv X (Px op') r')(hF:oY X.K .s r F)(hG:oY X.K .s r' G)(ha:DP X c k1 a f)(hb:DP X c k2 b g)(hc:DP X c k3 e3 h)
 (hm:Wy [op,op'] [b,e3]=false:=by with_unfolding_all rfl):DT X c (.Compare a [op,op'] [b,e3] pos) (bQ (Ei F G f g h)):=λhid ρ=>
 PT.imp (Dk ho ho' (ha hid ρ) (hb hid ρ) (hc hid ρ) hm) λσ H Q hq_=>by
  obtain⟨sr,d,hd,q⟩:=hq_;refine ED (X:=X) (F:=F) (G:=G) hF hG ⟨sr,_,mB hd,λv H' s r=>⟨d,?_,q H' s⟩⟩;cases r;rfl
end
section
variable {X:Cx}{c:Ct}{e a b:Expr}{es rest:List Expr}{f g:FE}{fs:FA}{k:Kd}{pos:Pos}
def aj:FA:=λ_=>some []
def aa(f:FE)(fs:FA):FA:=λρ=>(f ρ).bind λd=>(fs ρ).map λr=>d::r
theorem qS {ρ:aF}{ds:List D}(h:aa f fs ρ=some ds): ∃d r,f ρ=some d/\fs ρ=some r/\ds=d::r:=by
 unfold aa at h;cases e1:f ρ with
 |none=>rw[e1] at h;cases h
 |some d=>
  cases e2:fs ρ with
  |none=>rw[e1,e2] at h;cases h
  |some r=>rw[e1,e2] at h;cases h;exact⟨d,r,rfl,rfl,rfl⟩
theorem ao:DA X c [] aj:=λhid ρ=>PA.imp iU λσ H Q ⟨sr,d,hd,q⟩=>by cases hd;exact q [] H (Same.refl _) .nil
theorem ae(ha:DP X c .s e f)(hr:DA X c es fs)(hs:N8 (e::es) X.env=(false,eval e X.env)::N8 es X.env:=by rfl):DA X c (e::es) (aa f fs):=λhid ρ=>
 PA.imp (eQ (ha hid ρ) (hr hid ρ) hs) λσ H Q hq_=>by
  obtain⟨sr,d,hd,q⟩:=hq_;obtain⟨d1,r,e1,e2,rfl⟩:=qS hd;exact⟨sr,d1,e1,λv H1 s1 r1=>⟨sr.ext s1,r,e2,λvs H2 s2 r2=>q _ H2 (s1.trans s2) (.cons (Rep.mono (aY s2) r1) r2)⟩⟩
def cz(fs:FA):FE:=λρ=>(fs ρ).bind λds=>if ds.length<=Oi then some (.tup ds) else none
def cq(fs:FA):FE:=λρ=>(fs ρ).bind λds=>if ds.length<=Oi then some (.lst ds) else none
theorem AW {ρ:aF}{d:D}(h:cz fs ρ=some d): ∃ds,fs ρ=some ds/\ds.length<=Oi/\d=.tup ds:=by
 unfold cz at h;cases e1:fs ρ with
 |none=>rw[e1] at h;cases h
 |some ds=>
  rw[e1] at h;have h':(if ds.length<=Oi then some (D.tup ds) else none)=some d:=h;split at h'
  ·cases h';exact⟨ds,rfl, ‹_›,rfl⟩
  ·cases h'
theorem AU {ρ:aF}{d:D}(h:cq fs ρ=some d): ∃ds,fs ρ=some ds/\ds.length<=Oi/\d=.lst ds:=by
 unfold cq at h;cases e1:fs ρ with
 |none=>rw[e1] at h;cases h
 |some ds=>
  rw[e1] at h;have h':(if ds.length<=Oi then some (D.lst ds) else none)=some d:=h;split at h'
  ·cases h';exact⟨ds,rfl, ‹_›,rfl⟩
  ·cases h'
theorem bf {H:Hp}{p:Addr}(h:H p=none)(o:HO):Same H (cm H p o):=λb u q=>by rw[aR (bG q h)];exact q
theorem qU {K:NU}{H:Hp}{hid:bN}{p:Addr}{xs:List V}{ds:List D}(hn:H p=none)(hf:hid p=false)(r:Reps K (vw H hid) xs ds):Rep K (vw (cm H p (.tup xs)) hid) (.ref p) (.tup ds):=
 .tup (SqT.of (vw_some.mpr ⟨hf,ba⟩)) (r.mono (aY (bf hn _)))
theorem gw {K:NU}{H H0:Hp}{hid:bN}{p:Addr}{xs:List V}{ds:List D}(hn:H p=none)(s:Same H0 H)(r:Reps K (vw H hid) xs ds):RN K H0 (cm H p (.lst xs)) hid (.ref p) (.lst ds):=
 ⟨p,xs,ds,rfl,rfl,s.free hn,ba,by rw[uH hn];exact r⟩
theorem cD {x1}(h:DA X c es fs):DP X c .s (.Tuple es x1 pos) (cz fs):=λhid ρ=>PE.imp (IG (h hid ρ)) λσ H Q hq_=>by
 obtain⟨sr,d,hd,q⟩:=hq_;obtain⟨ds,e1,hz,rfl⟩:=AW hd;exact⟨sr,ds,e1,λvs H1 s1 r1=>⟨by rw[r1.length];exact hz,λp hp=>q _ _ (s1.trans (bf hp _)) (qU hp ((sr.ext s1).fresh hp) r1)⟩⟩
theorem dA(h:DA X c es fs):DP X c .n (.List es pos) (cq fs):=λhid ρ=>PE.imp (Jt (h hid ρ)) λσ H Q hq_=>by
 obtain⟨sr,d,hd,q⟩:=hq_;obtain⟨ds,e1,hz,rfl⟩:=AU hd;exact⟨sr,ds,e1,λvs H1 s1 r1=>⟨by rw[r1.length];exact hz,λp hp=>q _ _ (s1.trans (bf hp _)) (gw hp s1 r1)⟩⟩
abbrev Reps1(K:NU)(H W:Hp):List V->List D->Prop:=Paired (Rep1 K H W)
def Ng(K:NU)(c:Ct)(hid:bN)(f:FA)(ρ:aF):TA:=λσ H Q=>SR K c hid ρ σ H/\ ∃d,f ρ=some d/\ ∀vs H',Same H H'->Reps1 K H' (vw H' hid) vs d->Q vs H'
def DB(X:Cx)(c:Ct)(es:List Expr)(f:FA):Prop:= ∀hid ρ,PA X es (Ng X.K c hid f ρ)
theorem bx:DB X c [] aj:=λhid ρ=>PA.imp iU λσ H Q ⟨sr,d,hd,q⟩=>by cases hd;exact q [] H (Same.refl _) .nil
theorem aO(ha:DP X c k e f)(hr:DB X c es fs)(hs:N8 (e::es) X.env=(false,eval e X.env)::N8 es X.env:=by rfl):DB X c (e::es) (aa f fs):=λhid ρ=>
 PA.imp (eQ (ha hid ρ) (hr hid ρ) hs) λσ H Q hq_=>by
  obtain⟨sr,d,hd,q⟩:=hq_;obtain⟨d1,r,e1,e2,rfl⟩:=qS hd;exact⟨sr,d1,e1,λv H1 s1 r1=>⟨sr.ext s1,r,e2,λvs H2 s2 r2=>q _ H2 (s1.trans s2) (.cons ((RK.b k r1 λa n=>sr.fresh n).ext s2) r2)⟩⟩
def gc(K:NU)(k:Kd)(r:List V->Hp->VK->Prop)(F:List D->Option D):Prop:= ∀(H:Hp) (hid:bN) (vs:List V) (ds:List D) (d:D) (Q:VK),(∀a,H a=none->hid a=false)->F ds=some d->Reps1 K H (vw H hid) vs ds->
 (∀w H',Same H H'->RK K k H H' hid w d->Q w H')->r vs H Q
def ak(F:List D->Option D)(fs:FA):FE:=λρ=>(fs ρ).bind F
theorem p7 {F:List D->Option D}{ρ:aF}{d:D}(h:ak F fs ρ=some d): ∃ds,fs ρ=some ds/\F ds=some d:=by
 unfold ak at h;cases e1:fs ρ with
 |none=>rw[e1] at h;cases h
 |some ds=>rw[e1] at h;exact⟨ds,rfl,h⟩
theorem KK {r:List V->Hp->VK->Prop}{F:List D->Option D}{hid:bN}{ρ:aF}(hF:gc X.K k r F){σ:St}{H:Hp}{Q:VK}(h:Fj X.K c hid k (ak F fs) ρ σ H Q):KU r (Ng X.K c hid fs ρ) σ H Q:=by
 obtain⟨sr,d,hd,q⟩:=h;obtain⟨ds,e1,e2⟩:=p7 hd;exact⟨sr,ds,e1,λvs H1 s1 r1=>hF H1 hid vs ds d Q (λa n=>(sr.ext s1).fresh n) e2 r1 λw H' s2 r2=>q w H' (s1.trans s2) (RK.left s1 r2)⟩
variable {x:Str}{p:Pos}{id T:String}{r:List V->Hp->VK->Prop}{F:List D->Option D}
theorem aU(hc:dB X (.builtin id) r)(hF:gc X.K k r F)(hm:X.mg x=none)(ha:DB X c (e::es) fs)(hg:Gl X x:=by rfl)(hv:PF x=some (.builtin id):=by first|exact PySem.boot_len|rfl|kernel_rfl)(hn:x≠"__name__":=by decide)(hdb:(x==("__debug__":Str))=false:=by decide)
 (he:N8 (e::es) X.env=(false,eval e X.env)::N8 es X.env:=by rfl) (hpl:(Ql pos (N8 es X.env)).any (·.1)=false:=by rfl):DP X c k (.Call (.Name x p) (e::es) [] pos) (ak F fs):=λhid ρ=>
 PE.imp (qQ hc hg hm hv (ha hid ρ) hn hdb he hpl) λσ H Q h=>KK hF h
theorem gk(hc:dB X (.type T) r)(hF:gc X.K k r F)(hm:X.mg x=none)(ha:DB X c (e::es) fs)(hg:Gl X x:=by rfl)(hv:PF x=some (.type T):=by first|rfl|kernel_rfl)(hn:x≠"__name__":=by decide)(hdb:(x==("__debug__":Str))=false:=by decide)
 (he:N8 (e::es) X.env=(false,eval e X.env)::N8 es X.env:=by rfl) (hpl:(Ql pos (N8 es X.env)).any (·.1)=false:=by rfl):DP X c k (.Call (.Name x p) (e::es) [] pos) (ak F fs):=λhid ρ=>
 PE.imp (kH hc hg hm hv (ha hid ρ) hn hdb he hpl) λσ H Q h=>KK hF h
end
section
variable {K:NU}
theorem Reps1.one {H W:Hp}{v:List V}{d:D}(r:Reps1 K H W v [d]): ∃x,v=[x]/\Rep1 K H W x d:=by
 cases r with
 |cons r t=>cases t;exact⟨_,rfl,r⟩
theorem Reps1.two {H W:Hp}{v:List V}{d d':D}(r:Reps1 K H W v [d,d']): ∃x y,v=[x,y]/\Rep1 K H W x d/\Rep1 K H W y d':=by
 cases r with
 |cons r t=>cases t with
  |cons r' t=>cases t;exact⟨_,_,rfl,r,r'⟩
def cS:List D->Option D
 | [.lst ds]=>some (.int ds.length)
 | [.tup ds]=>some (.int ds.length)
 | [.scr ds]=>some (.int ds.length)
 |_=>none
theorem fm:gc K .s (λxs H Q=> ∃p ys,xs=[.ref p]/\(SqL K H p ys\/SqT K H p ys)/\Q (.int ys.length) H) cS:=by
 intro H hid vs ds d Q hf h r q;unfold cS at h;split at h
 ·cases h;obtain⟨x,rfl,r1⟩:=Reps1.one r;obtain⟨a,xs,rfl,h1,h2⟩:=r1.lst;exact⟨a,xs,rfl,.inl h1,by rw[h2.length];exact q _ H (Same.refl _) .int⟩
 ·cases h;obtain⟨x,rfl,r1⟩:=Reps1.one r;obtain⟨a,xs,rfl,_,h1,h2⟩:=r1.tup;exact⟨a,xs,rfl,.inr h1,by rw[h2.length];exact q _ H (Same.refl _) .int⟩
 ·cases h;obtain⟨x,rfl,r1⟩:=Reps1.one r;obtain⟨a,xs,rfl,h1,h2⟩:=r1.scr;exact⟨a,xs,rfl,.inl h1,by rw[h2.length];exact q _ H (Same.refl _) .int⟩
 ·cases h
def wo:List D->Option D
 | [.int i]=>some (.int (if i<0 then -i else i))
 |_=>none
theorem Ji:gc K .s (λxs H Q=> ∃i,xs=[.int i]/\Q (.int (if i<0 then -i else i)) H) wo:=by
 intro H hid vs ds d Q hf h r q;unfold wo at h;split at h
 ·cases h;obtain⟨x,rfl,r1⟩:=Reps1.one r;cases r1.int;exact⟨_,rfl,q _ H (Same.refl _) .int⟩
 ·cases h
def vf:List D->Option D
 | [.int i,.int j]=>some (.int (if j>i then j else i))
 |_=>none
theorem FX:gc K .s (λxs H Q=> ∃i j,xs=[.int i,.int j]/\Q (.int (if j>i then j else i)) H) vf:=by
 intro H hid vs ds d Q hf h r q;unfold vf at h;split at h
 ·cases h;obtain⟨x,y,rfl,r1,r2⟩:=Reps1.two r;cases r1.int;cases r2.int;exact⟨_,_,rfl,q _ H (Same.refl _) .int⟩
 ·cases h
def lg:List D->Option D
 | [.int i,.int j]=>some (.int (if j<i then j else i))
 |_=>none
theorem AH:gc K .s (λxs H Q=> ∃i j,xs=[.int i,.int j]/\Q (.int (if j<i then j else i)) H) lg:=by
 intro H hid vs ds d Q hf h r q;unfold lg at h;split at h
 ·cases h;obtain⟨x,y,rfl,r1,r2⟩:=Reps1.two r;cases r1.int;cases r2.int;exact⟨_,_,rfl,q _ H (Same.refl _) .int⟩
 ·cases h
def qM:List D->Option D
 | [.lst ds]=>some (.lst ds)
 | [.tup ds]=>some (.lst ds)
 |_=>none
theorem zx:gc K .n (λxs H Q=> ∃p ys,xs=[.ref p]/\(SqL K H p ys\/SqT K H p ys)/\ ∀l,H l=none->Q (.ref l) (cm H l (.lst ys))) qM:=by
 intro H hid vs ds d Q hf h r q;unfold qM at h;split at h
 ·cases h;obtain⟨x,rfl,r1⟩:=Reps1.one r;obtain⟨a,xs,rfl,h1,h2⟩:=r1.lst;exact⟨a,xs,rfl,.inl h1,λl hl=>q _ _ (bf hl _) (gw hl (Same.refl _) h2)⟩
 ·cases h;obtain⟨x,rfl,r1⟩:=Reps1.one r;obtain⟨a,xs,rfl,_,h1,h2⟩:=r1.tup;exact⟨a,xs,rfl,.inr h1,λl hl=>q _ _ (bf hl _) (gw hl (Same.refl _) h2)⟩
 ·cases h
def jc:List D->Option D
 | [.lst ds]=>some (.tup ds)
 | [.tup ds]=>some (.tup ds)
 |_=>none
theorem j5:gc K .s (λxs H Q=> ∃p ys,xs=[.ref p]/\((SqL K H p ys/\ ∀l,H l=none->Q (.ref l) (cm H l (.tup ys)))\/(SqT K H p ys/\Q (.ref p) H))) jc:=by
 intro H hid vs ds d Q hf h r q;unfold jc at h;split at h
 ·cases h;obtain⟨x,rfl,r1⟩:=Reps1.one r;obtain⟨a,xs,rfl,h1,h2⟩:=r1.lst;exact⟨a,xs,rfl,.inl ⟨h1,λl hl=>q _ _ (bf hl _) (qU hl (hf l hl) h2)⟩⟩
 ·cases h;obtain⟨x,rfl,r1⟩:=Reps1.one r;obtain⟨a,xs,rfl,h0,h1,h2⟩:=r1.tup;exact⟨a,xs,rfl,.inr ⟨h1,q _ H (Same.refl _) (.tup h0 h2)⟩⟩
 ·cases h
def bo:D->D->Option D
 | .lst ds,.int i=>sA ds i
 | .tup ds,.int i=>sA ds i
 | .scr ds,.int i=>sA ds i
 |_,_=>none
theorem ue {F:Hp}{xs:List V}{ds:List D}{i:Int}{d:D}(r:Reps K F xs ds)(h:sA ds i=some d): ∃x,sA xs i=some x/\Rep K F x d:=by
 unfold sA at h⊢;rw[r.length];cases e:wS ds.length i with
 |none=>rw[e] at h;cases h
 |some j=>
  rw[e] at h;obtain⟨x,h1,h2⟩:=r.get (i:=j) h;exact⟨x,h1,h2⟩
theorem aX:oY K .s (Nk K) bo:=by
 intro H hid v u x y d Q hf h r1 r2 q;unfold bo at h;split at h
 ·cases r2.int;obtain⟨a,xs,rfl,h1,h2⟩:=r1.lst;obtain⟨z,h3,h4⟩:=ue h2 h;exact .inl ⟨a,xs,_,z,rfl,rfl,h1,h3,q _ H (Same.refl _) h4⟩
 ·cases r2.int;obtain⟨a,xs,rfl,_,h1,h2⟩:=r1.tup;obtain⟨z,h3,h4⟩:=ue h2 h;exact .inr (.inl ⟨a,xs,_,z,rfl,rfl,h1,h3,q _ H (Same.refl _) h4⟩)
 ·cases r2.int;obtain⟨a,xs,rfl,h1,h2⟩:=r1.scr;obtain⟨z,h3,h4⟩:=ue h2 h;exact .inl ⟨a,xs,_,z,rfl,rfl,h1,h3,q _ H (Same.refl _) h4⟩
 ·cases h
end
abbrev GE:=aF->Option (D×aF)
abbrev GA:=aF->Option (List D×aF)
def Kept(hid:bN)(H H':Hp):Prop:= ∀b o,H b=some o->hid b=false->H' b=some o
theorem Kept.of {hid:bN}{H H':Hp}(s:Same H H'):Kept hid H H':=λb o q _=>s b o q
theorem Kept.trans {hid:bN}{H H1 H2:Hp}(a:Kept hid H H1)(b:Kept hid H1 H2):Kept hid H H2:=λc o q h=>b c o (a c o q h) h
theorem Kept.vw {hid:bN}{H H':Hp}(a:Kept hid H H'):Same (vw H hid) (vw H' hid):=zy a
def PostE(K:NU)(c:Ct)(hid:bN)(k:Kd)(ρ':aF)(σ:St)(H H':Hp)(v:V)(d:D):Prop:=Kept hid H H'/\match k with
 | .n=> ∃a xs ds,d=.lst ds/\v=.ref a/\H a=none/\H' a=some (.lst xs)/\c.H₀ a=none/\hid a=false/\SR K c (bc hid a) ρ' σ H'/\Reps K (vw H' (bc hid a)) xs ds/\ ∀i:Nat,Ow ρ'[i]? ->σ[i]? ≠some (some (.ref a))
 |_=>SR K c hid ρ' σ H'/\Rep K (vw H' hid) v d
def J7(K:NU)(c:Ct)(hid:bN)(k:Kd)(f:GE)(ρ:aF):TE:=λσ H Q=>SR K c hid ρ σ H/\ ∃d ρ',f ρ=some (d,ρ')/\ ∀v H',PostE K c hid k ρ' σ H H' v d->Q v H'
def DE(X:Cx)(c:Ct)(k:Kd)(e:Expr)(f:GE):Prop:= ∀hid ρ,PE X e (J7 X.K c hid k f ρ)
def pu(f:FE):GE:=λρ=>(f ρ).map λd=>(d,ρ)
theorem FU {f:FE}{ρ ρ':aF}{d:D}(h:pu f ρ=some (d,ρ')):f ρ=some d/\ρ'=ρ:=by
 unfold pu at h;cases e:f ρ with
 |none=>rw[e] at h;cases h
 |some x=>rw[e] at h;cases h;exact⟨rfl,rfl⟩
section
variable {K:NU}{c:Ct}{hid hid':bN}{ρ:aF}{σ:St}{H H':Hp}{i:Nat}{a:Addr}
theorem cK {hid:bN}{a b:Addr}(h:hid b=true):bc hid a b=true:=by unfold bc;rw[h];rfl
theorem fH {hid:bN}{a:Addr}:bc hid a a=true:=by unfold bc;simp
theorem yV {hid:bN}{a b:Addr}(h:bc hid a b=false):hid b=false/\b≠a:=by
 unfold bc at h;cases e:hid b with
 |true=>rw[e] at h;cases h
 |false=>rw[e] at h;exact⟨rfl,by simpa using h⟩
theorem SR.hide(h:SR K c hid ρ σ H)(e:Same H H')(n:H a=none){o:HO}(ho:H' a=some o)(hn: ∀xs,o≠ .tup xs:=by intro _ e;cases e):SR K c (bc hid a) ρ σ H':=by
 have sm:Same (vw H hid) (vw H' (bc hid a)):=λb o q=>by
  obtain⟨q1,q2⟩:=vw_some.mp q;refine vw_some.mpr ⟨?_,e _ _ q2⟩;unfold bc;rw[q1];have:b≠a:=bG q2 n;simp[this]
 refine⟨λb hb=>?_,λb xs hb q=>by
  by_cases eb:b=a
  ·subst eb;rw[ho] at q;exact hn _ (OS q)
  ·unfold bc at hb
   exact(h.ext e).ht b xs (by simpa [eb] using hb) q,λb q=>cK (h.h0 b q),(h.ext e).kp,(h.ext e).t0,h.c0,h.m0,h.len,λi s q=>?_,h.ap⟩
 ·by_cases eb:b=a
  ·subst eb;exact⟨_,ho⟩
  ·unfold bc at hb;have:hid b=true:=by simpa [eb] using hb
   obtain⟨o',q⟩:=h.tr b this;exact⟨o',e _ _ q⟩
 ·have z:=h.sl i s q;cases s with
  |no=>trivial
  |v d=>obtain⟨x,h1,h2⟩:=z;exact⟨x,h1,h2.mono sm⟩
  |own ds=>obtain⟨a',xs,h1,h2,h3,h4,h5⟩:=z;exact⟨a',xs,h1,e _ _ h2,cK h3,h4,h5.mono sm⟩
  |arg ds=>obtain⟨a',xs,h1,h2,h3,h4,h5⟩:=z;exact⟨a',xs,h1,e _ _ h2,cK h3,h4,h5.mono sm⟩
  |ob b=>obtain⟨a',h1,h2⟩:=z;exact⟨a',h1,h2.mono (λ_ x _=>e x) sm λ_ _ _=>cK⟩
theorem SR.show (h:SR K c (bc hid a) ρ σ H)(h0: ∀b,c.hid₀ b=true->hid b=true)(no: ∀i:Nat,Ow ρ[i]? ->σ[i]? ≠some (some (.ref a))){o:HO}(ha:H a=some o)(hn: ∀p u,o≠ .nst p u:=by intro _ _ e;cases e):SR K c hid ρ σ H:=by
 have sm:Same (vw H (bc hid a)) (vw H hid):=g8 λb q=>cK q
 have un: ∀b,b≠a->bc hid a b=true->hid b=true:=λb nb hb=>by unfold bc at hb;simpa [nb] using hb
 refine⟨λb hb=>h.tr b (cK hb),λb xs hb=>h.ht b xs (cK hb),h0,h.kp,h.t0,h.c0,h.m0,h.len,λi s q=>?_,h.ap⟩;have z:=h.sl i s q;cases s with
 |no=>trivial
 |v d=>obtain⟨x,h1,h2⟩:=z;exact⟨x,h1,h2.mono sm⟩
 |own ds=>
  obtain⟨a',xs,h1,h2,h3,h4,h5⟩:=z;have:a'≠a:=λe=>by subst e;exact no i (by rw[q];trivial) h1
  exact⟨a',xs,h1,h2,un a' this h3,h4,h5.mono sm⟩
 |arg ds=>
  obtain⟨a',xs,h1,h2,h3,h4,h5⟩:=z;have:a'≠a:=λe=>by subst e;exact no i (by rw[q];trivial) h1
  exact⟨a',xs,h1,h2,un a' this h3,h4,h5.mono sm⟩
 |ob b=>
  obtain⟨a',h1,h2⟩:=z;exact⟨a',h1,h2.mono (λ_ _ _ _ q=>q) sm λow x hx=>un x (hx.ne (λe=>by subst e;exact no i (by rw[q];exact ow) h1) ha hn)⟩
theorem SR.notOw(h:SR K c hid ρ σ H)(n:hid a=false)(i:Nat)(o:Ow ρ[i]?):σ[i]? ≠some (some (.ref a)):=λe=>by
 cases q:ρ[i]? with
 |none=>rw[q] at o;exact o
 |some s=>
  rw[q] at o;have z:=h.sl i s q;cases s with
  |no=>exact o
  |v d=>exact o
  |own ds=>obtain⟨a',xs,h1,h2,h3,_⟩:=z;rw[e] at h1;cases h1;rw[n] at h3;cases h3
  |arg ds=>obtain⟨a',xs,h1,h2,h3,_⟩:=z;rw[e] at h1;cases h1;rw[n] at h3;cases h3
  |ob b=>obtain⟨a',h1,h2⟩:=z;rw[e] at h1;cases h1;have:=h2.hid o;rw[n] at this;cases this
theorem SR.post {k:Kd}{v:V}{d:D}(h:SR K c hid ρ σ H)(e:Same H H')(r:RK K k H H' hid v d)(hk:k≠ .b):PostE K c hid k ρ σ H H' v d:=by
 cases k with
 |b=>exact absurd rfl hk
 |s=>exact⟨.of e,h.ext e,r⟩
 |n=>
  obtain⟨a,xs,ds,h1,h2,h3,h4,h5⟩:=r;exact⟨.of e,a,xs,ds,h1,h2,h3,h4,h.fresh0 h3,h.fresh h3,h.hide e h3 h4,h5,h.notOw (h.fresh h3)⟩
theorem PostE.left {k:Kd}{ρ':aF}{H1:Hp}{v:V}{d:D}(s:Kept hid H H1)(p:PostE K c hid k ρ' σ H1 H' v d):PostE K c hid k ρ' σ H H' v d:=by
 cases k with
 |b=>exact⟨s.trans p.1,p.2⟩
 |s=>exact⟨s.trans p.1,p.2⟩
 |n=>
  obtain⟨kp,a,xs,ds,h1,h2,hn,h3,h4,h5,h6⟩:=p;refine⟨s.trans kp,a,xs,ds,h1,h2,?_,h3,h4,h5,h6⟩;cases e:H a with
  |none=>rfl
  |some o=>rw[s a o e h5] at hn;cases hn
theorem PostE.toS {ρ':aF}{v:V}{d:D}(h0: ∀b,c.hid₀ b=true->hid b=true)(p:PostE K c hid .n ρ' σ H H' v d):PostE K c hid .s ρ' σ H H' v d:=by
 obtain⟨kp,a,xs,ds,rfl,rfl,hn,h1,h2,h3,h4,h5,h6⟩:=p;exact⟨kp,h4.show h0 h6 h1,.lst (vw_some.mpr ⟨h3,h1⟩) (h5.mono (g8 λb q=>cK q))⟩
end
section
variable {X:Cx}{c:Ct}{e a b:Expr}{es rest:List Expr}{f g:GE}{k:Kd}{pos:Pos}
theorem DP.ef {f:FE}(h:DP X c k e f)(hk:k≠ .b:=by decide):DE X c k e (pu f):=λhid ρ=>PE.imp (h hid ρ) λσ H Q hq_=>by
 obtain⟨sr,d,ρ',hd,q⟩:=hq_;obtain⟨h1,rfl⟩:=FU hd;exact⟨sr,d,h1,λv H' s r=>q v H' (sr.post s r hk)⟩
theorem DE.toS(h:DE X c .n e f):DE X c .s e f:=λhid ρ=>PE.imp (h hid ρ) λσ H Q ⟨sr,d,ρ',hd,q⟩=>⟨sr,d,ρ',hd,λv H' p=>q v H' (p.toS sr.h0)⟩
def bE {α:Type}(f:GE)(g:D->aF->Option α):aF->Option α:=λρ=>(f ρ).bind λp=>g p.1 p.2
theorem tu {α:Type}{g:D->aF->Option α}{ρ:aF}{z:α}(h:bE f g ρ=some z): ∃d ρ',f ρ=some (d,ρ')/\g d ρ'=some z:=by
 unfold bE at h;cases e:f ρ with
 |none=>rw[e] at h;cases h
 |some p=>rw[e] at h;exact⟨p.1,p.2,rfl,h⟩
def xo(F:D->D->Option D)(f g:GE):GE:=bE f λx=>bE g λy ρ=>(F x y).map λd=>(d,ρ)
theorem Bh {F:D->D->Option D}{ρ ρ':aF}{d:D}(h:xo F f g ρ=some (d,ρ')): ∃x ρ1 y,f ρ=some (x,ρ1)/\g ρ1=some (y,ρ')/\F x y=some d:=by
 obtain⟨x,ρ1,h1,h2⟩:=tu h;obtain⟨y,ρ2,h3,h4⟩:=tu h2;cases e:F x y with
 |none=>rw[e] at h4;cases h4
 |some z=>rw[e] at h4;cases h4;exact⟨x,ρ1,y,h1,h3,e⟩
theorem Mr {r:R2}{F:D->D->Option D}{hid:bN}{ρ:aF}(hF:oY X.K k r F)(hk:k≠ .b){σ:St}{H:Hp}{Q:VK}(h:J7 X.K c hid k (xo F f g) ρ σ H Q):J5 r (J7 X.K c hid .s f ρ) (λσ H Q=> ∃ρ1,J7 X.K c hid .s g ρ1 σ H Q) σ H Q:=by
 obtain⟨sr,d,ρ',hd,q⟩:=h;obtain⟨x,ρ1,y,e1,e2,e3⟩:=Bh hd;refine⟨sr,x,ρ1,e1,λv H1 ⟨k1,s1,r1⟩=>⟨ρ1,s1,y,ρ',e2,λu H2 ⟨k2,s2,r2⟩=>?_⟩⟩;exact hF H2 hid v u x y d Q (λa n=>s2.fresh n) e3 (.inl (r1.mono k2.vw)) (.inl r2) λw H' s3 r3=>q w H' (PostE.left (k1.trans k2) (s2.post s3 r3 hk))
theorem uM {α:Type}{t:α->TE}(h: ∀z,PE X e (t z)):PE X e (λσ H Q=> ∃z,t z σ H Q):=λah s σ H Q I ⟨z,q⟩=>h z ah s σ H Q I q
def No(K:NU)(c:Ct)(hid:bN)(f:GA)(ρ:aF):TA:=λσ H Q=>SR K c hid ρ σ H/\ ∃d ρ',f ρ=some (d,ρ')/\ ∀vs H',Kept hid H H'->SR K c hid ρ' σ H'->Reps K (vw H' hid) vs d->Q vs H'
def DG(X:Cx)(c:Ct)(es:List Expr)(f:GA):Prop:= ∀hid ρ,PA X es (No X.K c hid f ρ)
def cN(f:FA):GA:=λρ=>(f ρ).map λd=>(d,ρ)
theorem wc {f:FA}{ρ ρ':aF}{d:List D}(h:cN f ρ=some (d,ρ')):f ρ=some d/\ρ'=ρ:=by
 unfold cN at h;cases e:f ρ with
 |none=>rw[e] at h;cases h
 |some x=>rw[e] at h;cases h;exact⟨rfl,rfl⟩
theorem DA.gf {f:FA}(h:DA X c es f):DG X c es (cN f):=λhid ρ=>PA.imp (h hid ρ) λσ H Q hq_=>by
 obtain⟨sr,d,ρ',hd,q⟩:=hq_;obtain⟨h1,rfl⟩:=wc hd;exact⟨sr,d,h1,λv H' s r=>q v H' (.of s) (sr.ext s) r⟩
def ga(f:GE)(fs:GA):GA:=bE f λd ρ=>(fs ρ).map λp=>(d::p.1,p.2)
theorem Mx {α:Type}{t:α->TA}(h: ∀z,PA X es (t z)):PA X es (λσ H Q=> ∃z,t z σ H Q):=λp ah s σ H Q I ⟨z,q⟩=>h z p ah s σ H Q I q
theorem pL {fs:GA}(ha:DE X c .s e f)(hr:DG X c es fs)(hs:N8 (e::es) X.env=(false,eval e X.env)::N8 es X.env:=by rfl):DG X c (e::es) (ga f fs):=λhid ρ=>
 PA.imp (eQ (ha hid ρ) (Mx λρ1=>hr hid ρ1) hs) λσ H Q hq_=>by
  obtain⟨sr,d,ρ',hd,q⟩:=hq_;obtain⟨d1,ρ1,e1,h2⟩:=tu hd;cases e2:fs ρ1 with
  |none=>rw[e2] at h2;cases h2
  |some p=>
   rw[e2] at h2;obtain⟨ds,ρ2⟩:=p;cases h2;exact⟨sr,d1,ρ1,e1,λv H1 ⟨k1,s1,r1⟩=>⟨ρ1,s1,ds,_,e2,λvs H2 k2 s2 r2=>q _ H2 (k1.trans k2) s2 (.cons (r1.mono k2.vw) r2)⟩⟩
end
def cb(K:NU)(k:Kd)(n:Nat)(P:List D->Option D):Sp:=λvs H Q _=> ∃hid ds,Ka hid H/\Reps K (vw H hid) vs ds/\ds.length=n/\ ∃d,P ds=some d/\ ∀v H',Same H H'->RK K k H H' hid v d->Q v H'
def KL(K:NU)(k:Kd)(hid:bN)(H H':Hp)(v:V)(d:D)(xs':List V)(bs':List D):Prop:=match k with
 | .n=> ∃p ys es,d=.lst es/\v=.ref p/\H p=none/\H' p=some (.lst ys)/\Reps K (vw H' (bc hid p)) ys es/\Reps K (vw H' (bc hid p)) xs' bs'
 |_=>Rep K (vw H' hid) v d/\Reps K (vw H' hid) xs' bs'
def zk(K:NU)(k:Kd)(n:Nat)(M:List D->List D->Option (D×List D)):Sp:=λvs H Q _=> ∃hid a xs bs us ds,vs=.ref a::us/\Ka hid H/\hid a=true/\H a=some (.lst xs)/\Reps K (vw H hid) xs bs/\
 Reps K (vw H hid) us ds/\ds.length=n/\ ∃d bs',M bs ds=some (d,bs')/\ ∀v H' xs',(∀b o,H b=some o->b≠a->H' b=some o)->H' a=some (.lst xs')->KL K k hid H H' v d xs' bs'->Q v H'
section
variable {X:Cx}{c:Ct}{e a b:Expr}{es rest:List Expr}{k:Kd}{pos p:Pos}{x:Str}{f:Addr}{fd:QC}{ps:List Str}{j n:Nat}
theorem GJ {P:List D->Option D}{fs:FA}(F:FnOk X.prog X.w X.K X.mg X.base u3 j f fd ps (cb X.K k n P))(hr:Room j X.A)(hm:X.mg x=some (.ref f))(hk:Tn X.K (.ref f)=true)(hb:Binds X.K fd ps [])
 (ha:DA X c (e::es) fs) (hg:Gl X x:=by rfl) (hdb:(x==("__debug__":Str))=false:=by decide) (he:N8 (e::es) X.env=(false,eval e X.env)::N8 es X.env:=by rfl) (hpl:(Ql pos (N8 es X.env)).any (·.1)=false:=by rfl):
 DP X c k (.Call (.Name x p) (e::es) [] pos) (ak (λds=>if ds.length=n then P ds else none) fs):=λhid ρ=>
 PE.imp (Ae F hr hg hm hk hb .nil (Hv (X:=X)) (ha hid ρ) hdb he hpl) λσ H Q hq_=>by
  obtain⟨sr,d,hd,q⟩:=hq_;obtain⟨ds,e1,e2⟩:=p7 hd;have e2':(if ds.length=n then P ds else none)=some d:=e2;split at e2'
  ·refine⟨sr,ds,e1,λvs H1 s1 r1=>?_⟩;show cb X.K k n P (vs++[]) H1 Q E0;rw[O2];exact⟨hid,ds,(sr.ext s1).trk,r1, ‹_›,d,e2',λv H' s2 r2=>q v H' (s1.trans s2) (RK.left s1 r2)⟩
  ·cases e2'
def ig(i:Nat)(bs:List D)(ρ:aF):aF:=match ρ[i]? with
 |some (.own _)=>ρ.set i (.own bs)
 |some (.arg _)=>ρ.set i (.arg bs)
 |_=>ρ
def i9(i:Nat)(ρ:aF):Option (List D):=match ρ[i]? with
 |some (.own ds)=>some ds
 |some (.arg ds)=>some ds
 |_=>none
theorem iO {i:Nat}{ρ:aF}{bs:List D}(h:i9 i ρ=some bs):ρ[i]? =some (.own bs)\/ρ[i]? =some (.arg bs):=by
 unfold i9 at h;split at h
 ·cases h;exact .inl ‹_›
 ·cases h;exact .inr ‹_›
 ·cases h
theorem SR.held {K:NU}{hid:bN}{ρ:aF}{σ:St}{H:Hp}{i:Nat}{bs:List D}(h:SR K c hid ρ σ H)(hg:i9 i ρ=some bs): ∃a xs,σ[i]? =some (some (.ref a))/\H a=some (.lst xs)/\hid a=true/\Reps K (vw H hid) xs bs/\(c.mu a=true\/c.H₀ a=none):=by
 rcases iO hg with e|e
 ·obtain⟨a,xs,h1,h2,h3,h4,h5⟩:=h.sl i _ e;exact⟨a,xs,h1,h2,h3,h5,.inr h4⟩
 ·obtain⟨a,xs,h1,h2,h3,h4,h5⟩:=h.sl i _ e;exact⟨a,xs,h1,h2,h3,h5,.inl h4⟩
theorem k7 {i j:Nat}{ρ:aF}{bs:List D}(h:j≠i):(ig i bs ρ)[j]? =ρ[j]? :=by
 unfold ig;split
 ·rw[N7 (OX h)]
 ·rw[N7 (OX h)]
 ·rfl
theorem DX {i:Nat}{ρ:aF}{bs:List D}:(ig i bs ρ).length=ρ.length:=by
 unfold ig;split
 ·simp
 ·simp
 ·rfl
theorem ul {i j:Nat}{ρ:aF}{bs:List D}(h:Ow (ig i bs ρ)[j]?):Ow ρ[j]? :=by
 by_cases e:j=i
 ·subst e;unfold ig at h;split at h
  ·rw[‹ρ[j]? =_›];trivial
  ·rw[‹ρ[j]? =_›];trivial
  ·exact h
 ·rw[k7 e] at h;exact h
theorem SR.put {K:NU}{hid:bN}{ρ:aF}{σ:St}{H H':Hp}{i:Nat}{bs bs':List D}{a:Addr}{xs':List V}(h:SR K c hid ρ σ H)(hg:i9 i ρ=some bs)(ha:σ[i]? =some (some (.ref a)))(kp: ∀b o,H b=some o->b≠a->H' b=some o)
 (hx:H' a=some (.lst xs')) (r:Reps K (vw H' hid) xs' bs'):SR K c hid (ig i bs' ρ) σ H':=by
 obtain⟨a1,xs,h1,h2,h3,h4,h5⟩:=h.held hg;rw[ha] at h1;cases h1;have sm:Same (vw H hid) (vw H' hid):=zy λb o q hb=>kp b o q (λe=>by subst e;rw[h3] at hb;cases hb)
 have tr': ∀b o,H b=some o-> ∃o',H' b=some o':=λb o q=>by
  by_cases e:b=a
  ·subst e;exact⟨_,hx⟩
  ·exact⟨o,kp b o q e⟩
 refine⟨λb hb=>let⟨o,q⟩:=h.tr b hb;tr' b o q,λb xs hb q=>by
  by_cases e:b=a
  ·subst e;rw[hx] at q;cases q
  ·obtain⟨o,w⟩:=h.tr b hb;have z:=kp b o w e
   rw[q] at z;cases z;exact h.ht b xs hb w,h.h0,λb o q m=>?_,λb o q=>let⟨o',q'⟩:=h.t0 b o q;tr' b o' q',h.c0,h.m0,by rw[DX];exact h.len,λj s q=>?_,λj l z n o1 o2=>h.ap j l z n (ul o1) (ul o2)⟩
 ·refine kp b o (h.kp b o q m) λe=>?_
  subst e;rcases h5 with h5|h5
  ·rw[h5] at m;cases m
  ·rw[h5] at q;cases q
 ·by_cases e:j=i
  ·subst e;rcases iO hg with w|w
   ·have lt:=(NY.mp w).1;unfold ig at q;rw[w] at q;dsimp only at q;rw[Og lt] at q;cases q;obtain⟨a2,xs2,g1,g2,g3,g4,g5⟩:=h.sl j _ w;rw[ha] at g1;cases g1;exact⟨_,xs',ha,hx,g3,g4,r⟩
   ·have lt:=(NY.mp w).1;unfold ig at q;rw[w] at q;dsimp only at q;rw[Og lt] at q;cases q;obtain⟨a2,xs2,g1,g2,g3,g4,g5⟩:=h.sl j _ w;rw[ha] at g1;cases g1;exact⟨_,xs',ha,hx,g3,g4,r⟩
  ·rw[k7 e] at q;have z:=h.sl j s q;cases s with
   |no=>trivial
   |v d=>obtain⟨x,h1,h2⟩:=z;exact⟨x,h1,h2.mono sm⟩
   |own ds=>
    obtain⟨a',xs,z1,z2,z3,z4,z5⟩:=z;have ne:a'≠a:=λe'=>by
     subst e';refine h.ap j i a' e (by rw[q];trivial) ?_ z1 ha;rcases iO hg with w|w<;>rw[w]<;>trivial
    exact⟨a',xs,z1,kp _ _ z2 ne,z3,z4,z5.mono sm⟩
   |arg ds=>
    obtain⟨a',xs,z1,z2,z3,z4,z5⟩:=z;have ne:a'≠a:=λe'=>by
     subst e';refine h.ap j i a' e (by rw[q];trivial) ?_ z1 ha;rcases iO hg with w|w<;>rw[w]<;>trivial
    exact⟨a',xs,z1,kp _ _ z2 ne,z3,z4,z5.mono sm⟩
   |ob b=>
    obtain⟨a',z1,z2⟩:=z;refine⟨a',z1,z2.mono (λow x hx o w=>kp _ _ w (hx.ne (λe'=>?_) h2)) sm λ_ _ _ w=>w⟩;subst e';refine h.ap j i a' e (by rw[q];exact ow) ?_ z1 ha;rcases iO hg with w|w<;>rw[w]<;>trivial
def aQ(i n:Nat)(M:List D->List D->Option (D×List D))(fs:GA):GE:=λρ=>match i9 i ρ with
 |none=>none
 |some _=>match fs ρ with
  |none=>none
  |some (ds,ρ1)=>match i9 i ρ1 with
   |none=>none
   |some bs=>if ds.length=n then match M bs ds with
     |none=>none
     |some (d,bs')=>some (d,ig i bs' ρ1) else none
theorem qA {i:Nat}{M:List D->List D->Option (D×List D)}{fs:GA}{ρ ρ':aF}{d:D}(h:aQ i n M fs ρ=some (d,ρ')): ∃bs0 ds ρ1 bs bs',i9 i ρ=some bs0/\fs ρ=some (ds,ρ1)/\i9 i ρ1=some bs/\ds.length=n/\M bs ds=some (d,bs')/\ρ'=ig i bs' ρ1:=by
 unfold aQ at h;split at h
 ·cases h
 ·split at h
  ·cases h
  ·split at h
   ·cases h
   ·split at h
    ·split at h
     ·cases h
     ·cases h;exact⟨_,_,_,_,_, ‹_›, ‹_›, ‹_›, ‹_›, ‹_›,rfl⟩
    ·cases h
theorem De(i:Nat){y:Str}{py:Pos}{M:List D->List D->Option (D×List D)}{fs:GA}(F:FnOk X.prog X.w X.K X.mg X.base u3 j f fd ps (zk X.K k n M))(hr:Room j X.A)(hm:X.mg x=some (.ref f))(hk:Tn X.K (.ref f)=true)(hb:Binds X.K fd ps [])
 (ha:DG X c es fs) (hkb:k≠ .b:=by decide) (hN:X.N[i]? =some y:=by rfl) (hv:xG X.env.scope y:=by first|exact P7 rfl|exact Pi (P7 rfl)|exact Pi (Pi rfl)) (hd:(y==("__debug__":Str))=false:=by decide)
 (hcd:(y==("__classdict__":Str))=false:=by decide) (hs:N8 (.Name y py::es) X.env=(false,eval (.Name y py) X.env)::N8 es X.env:=by rfl) (hg:Gl X x:=by rfl) (hdb:(x==("__debug__":Str))=false:=by decide) (hpl:(Ql pos (N8 es X.env)).any (·.1)=false:=by rfl):
 DE X c k (.Call (.Name x p) (.Name y py::es) [] pos) (aQ i n M fs):=λhid ρ=>
 PE.imp (Ae F hr hg hm hk hb .nil (Hv (X:=X)) (eQ (pv i hN hv hd hcd) (ha hid ρ) hs) hdb hs hpl) λσ H Q hq_=>by
  obtain⟨sr,d,ρ',hd',q⟩:=hq_;obtain⟨bs0,ds,ρ1,bs,bs',e0,e1,e2,e3,e4,rfl⟩:=qA hd';obtain⟨a,xs0,a1,_,a3,_,_⟩:=sr.held e0;refine⟨.ref a,a1,sr,ds,ρ1,e1,λus H1 k1 s1 r1=>?_⟩;obtain⟨a',xs,b1,b2,b3,b4,b5⟩:=s1.held e2;rw[a1] at b1;cases b1;show zk X.K k n M ((.ref a::us)++[]) H1 Q E0;rw[O2];refine⟨hid,a,xs,bs,us,ds,rfl,s1.trk,b3,b2,b4,r1,e3,d,bs',e4,λv H' xs' kp hx hr'=>q v H' ?_⟩;have kp':Kept hid H1 H':=λb o q hb=>kp b o q λe=>by subst e;rw[b3] at hb;cases hb
  cases k with
  |b=>exact absurd rfl hkb
  |s=>exact⟨k1.trans kp',s1.put e2 a1 kp hx hr'.2,hr'.1⟩
  |n=>
   obtain⟨p',ys,es',rfl,rfl,h1,h2,h3,h4⟩:=hr';have np:hid p'=false:=s1.fresh h1;have na:a≠p':=λe=>by subst e;rw[b2] at h1;cases h1
   have sB:SR X.K c (bc hid p') ρ1 σ (cm H1 p' (.lst ys)):=s1.hide (bf h1 _) h1 ba;have kp2: ∀b o,(cm H1 p' (.lst ys)) b=some o->b≠a->H' b=some o:=λb o z hb=>by
    by_cases e:b=p'
    ·subst e;rw[ba] at z;cases z;exact h2
    ·rw[aR e] at z;exact kp b o z hb
   have sC:SR X.K c (bc hid p') (ig i bs' ρ1) σ H':=sB.put e2 a1 kp2 hx h4;have hn:H p'=none:=by
    cases e:H p' with
    |none=>rfl
    |some o=>rw[k1 p' o e np] at h1;cases h1
   refine⟨k1.trans kp',p',ys,es',rfl,rfl,hn,h2,s1.fresh0 h1,np,sC,h3,λm hm hσ=>?_⟩;have:=s1.notOw np m (ul hm);exact this hσ
end
inductive Out where
 |nx (ρ:aF)|rt (d:D) (ρ:aF)|bk (ρ:aF)|ct (ρ:aF)|no
abbrev FS:=aF->Out
def Mm(c:Ct)(k:Kd)(v:V):bN:=match k,v with
 | .n,.ref a=>bc c.hid₀ a
 |_,_=>c.hid₀
structure Ret(K:NU)(c:Ct)(k:Kd)(ρ':aF)(H':Hp)(v:V)(d:D):Prop where
 kp: ∀b o,c.H₀ b=some o->c.mu b=false->H' b=some o
 val:match k with
  | .n=> ∃a xs ds,d=.lst ds/\v=.ref a/\c.H₀ a=none/\H' a=some (.lst xs)/\Reps K (vw H' (bc c.hid₀ a)) xs ds
  |_=>Rep K (vw H' c.hid₀) v d
 arg: ∀(i:Nat) (bs:List D),ρ'[i]? =some (Sl.arg bs)-> ∃a xs,c.mu a=true/\H' a=some (.lst xs)/\Reps K (vw H' (Mm c k v)) xs bs
def EndOk(K:NU)(c:Ct)(k:Kd)(D:Ends)(W:Hp):Out->Prop
 | .nx ρ'=> ∀σ' H' hid',SR K c hid' ρ' σ' H'->Same W (vw H' hid')->D.nx σ' H'
 | .rt d ρ'=> ∀v H',Ret K c k ρ' H' v d->D.rt v H'
 | .bk ρ'=> ∀σ' H' hid',SR K c hid' ρ' σ' H'->Same W (vw H' hid')->D.bk σ' H'
 | .ct ρ'=> ∀σ' H' hid',SR K c hid' ρ' σ' H'->Same W (vw H' hid')->D.ct σ' H'
 | .no=>False
theorem EndOk.mono {K:NU}{c:Ct}{k:Kd}{D:Ends}{W W':Hp}{o:Out}(h:EndOk K c k D W o)(s:Same W W'):EndOk K c k D W' o:=by
 cases o with
 |nx ρ=>exact λσ' H' hid' z w=>h σ' H' hid' z (s.trans w)
 |rt d ρ=>exact h
 |bk ρ=>exact λσ' H' hid' z w=>h σ' H' hid' z (s.trans w)
 |ct ρ=>exact λσ' H' hid' z w=>h σ' H' hid' z (s.trans w)
 |no=>exact h
def Nf(K:NU)(c:Ct)(k:Kd)(t:FS)(ρ:aF):TS:=λD σ H=> ∃hid,SR K c hid ρ σ H/\EndOk K c k D (vw H hid) (t ρ)
def DS(X:Cx)(c:Ct)(k:Kd)(st:Stmt)(t:FS):Prop:= ∀ρ,PS X st (Nf X.K c k t ρ)
def ze(X:Cx)(c:Ct)(k:Kd)(st:List Stmt)(t:FS):Prop:= ∀ρ,PSs X st (Nf X.K c k t ρ)
section
variable {X:Cx}{c:Ct}{k:Kd}{st:Stmt}{sts rest:List Stmt}{t u:FS}{e:Expr}{pos:Pos}
theorem CW {α:Type}{t:α->TS}(h: ∀z,PSs X sts (t z)):PSs X sts (λD σ H=> ∃z,t z D σ H):=λah s σ H D I ⟨z,q⟩=>h z ah s σ H D I q
theorem LL {α:Type}{t:α->TT}(h: ∀z,PT X e (t z)):PT X e (λD σ H=> ∃z,t z D σ H):=λah s σ H D I ⟨z,q⟩=>h z ah s σ H D I q
def skip:FS:=λρ=>.nx ρ
def aC(t u:FS):FS:=λρ=>match t ρ with
 | .nx ρ'=>u ρ'
 | .rt d ρ'=>.rt d ρ'
 | .bk ρ'=>.bk ρ'
 | .ct ρ'=>.ct ρ'
 | .no=>.no
theorem cj:ze X c k [] skip:=λρ=>PSs.imp Gc λD σ H ⟨hid,sr,q⟩=>q σ H hid sr (Same.refl _)
theorem az(h:DS X c k st t):ze X c k [st] t:=λρ=>Gb (h ρ)
theorem ar(h1:DS X c k st t)(h2:ze X c k rest u):ze X c k (st::rest) (aC t u):=λρ=>
 PSs.imp (Co (h1 ρ) (CW λρ1=>h2 ρ1)) λD σ H hq_=>by
  obtain⟨hid,sr,q⟩:=hq_;refine⟨hid,sr,?_⟩;unfold aC at q;cases e:t ρ with
  |nx ρ1=>rw[e] at q;exact λσ1 H1 hid1 sr1 v1=>⟨ρ1,hid1,sr1,EndOk.mono q v1⟩
  |rt d ρ1=>rw[e] at q;exact q
  |bk ρ1=>rw[e] at q;exact q
  |ct ρ1=>rw[e] at q;exact q
  |no=>rw[e] at q;exact q
def fB(p:FT)(t u:FS):FS:=λρ=>match p ρ with
 |some true=>t ρ
 |some false=>u ρ
 |none=>.no
theorem eU {p:FT}{a b:List Stmt}(hp:DT X c e p)(ha:ze X c k a t)(hb:ze X c k b u):DS X c k (.If e a b pos) (fB p t u):=λρ=>
 PS.imp (Lr (LL λhid=>hp hid ρ) (ha ρ) (hb ρ)) λD σ H hq_=>by
  obtain⟨hid,sr,q⟩:=hq_;cases e1:p ρ with
  |none=>unfold fB at q;rw[e1] at q;exact q.elim
  |some x=>
   refine⟨hid,sr,x,e1,λH1 s1=>?_⟩;unfold fB at q;rw[e1] at q;cases x with
   |true=>exact xz ⟨hid,sr.ext s1,EndOk.mono q (aY s1)⟩
   |false=>exact yk ⟨hid,sr.ext s1,EndOk.mono q (aY s1)⟩
def aW(f:FE):FS:=λρ=>match f ρ with
 |some d=>.rt d ρ
 |none=>.no
theorem HE {K:NU}{hid:bN}{ρ':aF}{σ:St}{H H':Hp}{v:V}{d:D}(hk:k≠ .b)(p:PostE K c hid k ρ' σ H H' v d)(h0: ∀b,c.hid₀ b=true->hid b=true):Ret K c k ρ' H' v d:=by
 cases k with
 |b=>exact absurd rfl hk
 |s=>
  obtain⟨_,sr,r⟩:=p;refine⟨sr.kp,r.mono (g8 sr.h0),λi bs e=>?_⟩;obtain⟨a,xs,z1,z2,z3,z4,z5⟩:=sr.sl i _ e;refine⟨a,xs,z4,z2,?_⟩;show Reps K (vw H' c.hid₀) xs bs;exact z5.mono (g8 sr.h0)
 |n=>
  obtain⟨_,a,xs,ds,rfl,rfl,_,h1,h2,h3,sr,h5,h6⟩:=p;have le:Same (vw H' (bc hid a)) (vw H' (bc c.hid₀ a)):=g8 λb q=>by
   unfold bc at q⊢;cases e:c.hid₀ b with
   |true=>rw[h0 b e];rfl
   |false=>rw[e] at q;rw[PD];right;simpa using q
  refine⟨sr.kp,⟨a,xs,ds,rfl,rfl,h2,h1,h5.mono le⟩,λi bs e=>?_⟩;obtain⟨a',xs',z1,z2,z3,z4,z5⟩:=sr.sl i _ e;exact⟨a',xs',z4,z2,z5.mono le⟩
theorem aM {f:FE}(he:DP X c k e f)(hk:k≠ .b:=by decide):DS X c k (.Return (some e) pos) (aW f):=λρ=>PS.imp (DK (uM λhid=>he hid ρ)) λD σ H hq_=>by
 obtain⟨hid,sr,q⟩:=hq_;unfold aW at q;cases e1:f ρ with
 |none=>rw[e1] at q;exact q.elim
 |some z=>rw[e1] at q;exact⟨hid,sr,_,e1,λv H' s r=>q v H' (HE hk (sr.post s r hk) sr.h0)⟩
def xp:Option Sl->Option (List D)
 |some (.own ds)=>some ds
 |_=>none
def w8(i:Nat):FS:=λρ=>match xp ρ[i]? with
 |some ds=>.rt (.lst ds) ρ
 |none=>.no
theorem r9 {o:Option Sl}{ds:List D}(h:xp o=some ds):o=some (.own ds):=by
 unfold xp at h;split at h
 ·cases h;rfl
 ·cases h
theorem uI(i:Nat){x:Str}{pos':Pos}(hN:X.N[i]? =some x:=by rfl)(hv:xG X.env.scope x:=by first|exact P7 rfl|exact Pi (P7 rfl)|exact Pi (Pi rfl))(hd:(x==("__debug__":Str))=false:=by decide)
 (hcd:(x==("__classdict__":Str))=false:=by decide):DS X c .n (.Return (some (.Name x pos')) pos) (w8 i):=λρ=>PS.imp (DK (pv i hN hv hd hcd)) λD σ H hq_=>by
 obtain⟨hid,sr,q⟩:=hq_;unfold w8 at q;cases e0:xp ρ[i]? with
 |none=>rw[e0] at q;exact q.elim
 |some ds=>
  rw[e0] at q;have e:=r9 e0;obtain⟨a,xs,z1,z2,z3,z4,z5⟩:=sr.sl i _ e;have le:Same (vw H hid) (vw H (bc c.hid₀ a)):=g8 λb w=>by
   unfold bc at w;cases e:c.hid₀ b with
   |true=>exact sr.h0 b e
   |false=>
    rw[e] at w;have:b=a:=by simpa using w
    rw[this];exact z3
  refine⟨_,z1,q _ H ⟨sr.kp,⟨a,xs,ds,rfl,rfl,z4,z2,z5.mono le⟩,λj bs e'=>?_⟩⟩;obtain⟨a',xs',w1,w2,w3,w4,w5⟩:=sr.sl j _ e';exact⟨a',xs',w4,w2,w5.mono le⟩
end
section
variable {K:NU}{c:Ct}{hid:bN}{ρ:aF}{σ:St}{H H':Hp}{i:Nat}{a:Addr}{v:V}{d:D}
theorem SR.setV(h:SR K c hid ρ σ H)(r:Rep K (vw H hid) v d)(i:Nat):SR K c hid (ρ.set i (.v d)) (σ.set i (some v)) H:=by
 refine⟨h.tr,h.ht,h.h0,h.kp,h.t0,h.c0,h.m0,by simp[h.len],λj s q=>?_,λj l z n o1 o2 q1 q2=>?_⟩
 ·by_cases e:j=i
  ·subst e;have lt:j<ρ.length:=by
    have:=(NY.mp q).1;simpa using this
   rw[Og lt] at q;cases q;exact⟨v,Og (by rw[h.len];exact lt),r⟩
  ·rw[N7 (OX e)] at q;have w:=h.sl j s q;have es:(σ.set i (some v))[j]? =σ[j]? :=N7 (OX e);cases s with
   |no=>trivial
   |v d=>obtain⟨x,h1,h2⟩:=w;exact⟨x,es.trans h1,h2⟩
   |own ds=>obtain⟨a,xs,h1,h2⟩:=w;exact⟨a,xs,es.trans h1,h2⟩
   |arg ds=>obtain⟨a,xs,h1,h2⟩:=w;exact⟨a,xs,es.trans h1,h2⟩
   |ob b=>obtain⟨a,h1,h2⟩:=w;exact⟨a,es.trans h1,h2⟩
 ·have nj: ∀m,Ow (ρ.set i (.v d))[m]? ->m≠i:=λm o e=>by
   subst e
   by_cases lt:m<ρ.length
   ·rw[Og lt] at o;exact o
   ·rw[O8 (by simpa using lt)] at o;exact o
  have e1:=nj j o1;have e2:=nj l o2;rw[N7 (OX e1)] at o1 q1;rw[N7 (OX e2)] at o2 q2;exact h.ap j l z n o1 o2 q1 q2
theorem SR.setO {xs:List V}{ds:List D}(h:SR K c hid ρ σ H)(ha:H a=some (.lst xs))(hh:hid a=true)(h0:c.H₀ a=none)(r:Reps K (vw H hid) xs ds)(no: ∀i:Nat,Ow ρ[i]? ->σ[i]? ≠some (some (.ref a)))(i:Nat):
 SR K c hid (ρ.set i (.own ds)) (σ.set i (some (.ref a))) H:=by
 refine⟨h.tr,h.ht,h.h0,h.kp,h.t0,h.c0,h.m0,by simp[h.len],λj s q=>?_,λj l z n o1 o2 q1 q2=>?_⟩
 ·by_cases e:j=i
  ·subst e;have lt:j<ρ.length:=by
    have:=(NY.mp q).1;simpa using this
   rw[Og lt] at q;cases q;exact⟨a,xs,Og (by rw[h.len];exact lt),ha,hh,h0,r⟩
  ·rw[N7 (OX e)] at q;have w:=h.sl j s q;have es:(σ.set i (some (V.ref a)))[j]? =σ[j]? :=N7 (OX e);cases s with
   |no=>trivial
   |v d=>obtain⟨x,h1,h2⟩:=w;exact⟨x,es.trans h1,h2⟩
   |own ds=>obtain⟨a,xs,h1,h2⟩:=w;exact⟨a,xs,es.trans h1,h2⟩
   |arg ds=>obtain⟨a,xs,h1,h2⟩:=w;exact⟨a,xs,es.trans h1,h2⟩
   |ob b=>obtain⟨a,h1,h2⟩:=w;exact⟨a,es.trans h1,h2⟩
 ·by_cases e1:j=i
  ·subst e1;have e2:l≠j:=λe=>n e.symm
   rw[N7 (OX e2)] at o2 q2
   by_cases lt:j<σ.length
   ·rw[Og lt] at q1;cases q1;exact no l o2 q2
   ·rw[O8 (by simpa using lt)] at q1;cases q1
  ·rw[N7 (OX e1)] at o1 q1
   by_cases e2:l=i
   ·subst e2
    by_cases lt:l<σ.length
    ·rw[Og lt] at q2;cases q2;exact no j o1 q1
    ·rw[O8 (by simpa using lt)] at q2;cases q2
   ·rw[N7 (OX e2)] at o2 q2;exact h.ap j l z n o1 o2 q1 q2
end
section
variable {X:Cx}{c:Ct}{k:Kd}{st:Stmt}{sts rest:List Stmt}{t u:FS}{e:Expr}{es:List Expr}{pos pos':Pos}{x:Str}{i:Nat}
def ki(i:Nat)(f:GE):FS:=λρ=>match f ρ with
 |some (d,ρ')=>.nx (ρ'.set i (.v d))
 |none=>.no
def a8(i:Nat)(f:FE):FS:=λρ=>match f ρ with
 |some d=>.nx (ρ.set i (.v d))
 |none=>.no
def MR:D->Option (List D)
 | .lst ds=>some ds
 |_=>none
def Ds(i:Nat)(f:GE):FS:=λρ=>match f ρ with
 |some (d,ρ')=>(match MR d with
  |some ds=>.nx (ρ'.set i (.own ds))
  |none=>.no)
 |none=>.no
def gH(i:Nat)(f:FE):FS:=λρ=>match f ρ with
 |some d=>(match MR d with
  |some ds=>.nx (ρ.set i (.own ds))
  |none=>.no)
 |none=>.no
theorem pD(i:Nat){f:GE}(hn:X.N.Nodup)(he:DE X c .s e f)(hi:X.N[i]? =some x:=by rfl)(hx:D4 X.env.scope x:=by first|exact P7 rfl|exact Pi rfl)(hs:Q1 e (some (.Name x pos')) pos.line X.env=pure false:=by rfl)
 (hf:X.fn x=true\/X.env.scope.names.lookup x=some .local:=by first|exact .inl rfl|exact .inr rfl|assumption):DS X c k (.Assign [.Name x pos'] e pos) (ki i f):=λρ=>PS.imp (uN hn hi hx (uM λhid=>he hid ρ) hs hf) λD σ H hq_=>by
 obtain⟨hid,sr,q⟩:=hq_;unfold ki at q;cases e1:f ρ with
 |none=>rw[e1] at q;exact q.elim
 |some z=>
  rw[e1] at q;exact⟨hid,sr,z.1,z.2,e1,λv H' ⟨kp,s',r⟩=>q _ H' hid (s'.setV r i) kp.vw⟩
theorem aZ(i:Nat){f:FE}(hn:X.N.Nodup)(he:DP X c .s e f)(hi:X.N[i]? =some x:=by rfl)(hx:D4 X.env.scope x:=by first|exact P7 rfl|exact Pi rfl)(hs:Q1 e (some (.Name x pos')) pos.line X.env=pure false:=by rfl)
 (hf:X.fn x=true\/X.env.scope.names.lookup x=some .local:=by first|exact .inl rfl|exact .inr rfl|assumption):DS X c k (.Assign [.Name x pos'] e pos) (a8 i f):=λρ=>PS.imp (uN hn hi hx (uM λhid=>he hid ρ) hs hf) λD σ H hq_=>by
 obtain⟨hid,sr,q⟩:=hq_;unfold a8 at q;cases e1:f ρ with
 |none=>rw[e1] at q;exact q.elim
 |some z=>
  rw[e1] at q;exact⟨hid,sr,z,e1,λv H' s' r=>q _ H' hid ((sr.ext s').setV r i) (aY s')⟩
theorem Ls {K:NU}{hid:bN}{ρ':aF}{σ:St}{H H':Hp}{v:V}{d:D}{D:Ends}(p:PostE K c hid .n ρ' σ H H' v d)(q:EndOk K c k D (vw H hid) (match MR d with
 |some ds=>.nx (ρ'.set i (.own ds))
 |none=>.no)):D.nx (σ.set i (some v)) H':=by
 obtain⟨kp,a,xs,ds,rfl,rfl,hn,h1,h2,h3,h4,h5,h6⟩:=p;refine q _ H' (bc hid a) (h4.setO h1 fH h2 h5 h6 i) λb o w=>?_
 obtain⟨w1,w2⟩:=vw_some.mp w;refine vw_some.mpr ⟨?_,kp b o w2 w1⟩;unfold bc;rw[w1];have:b≠a:=bG w2 hn;simp[this]
theorem jD(i:Nat){f:FE}(hn:X.N.Nodup)(he:DP X c .n e f)(hi:X.N[i]? =some x:=by rfl)(hx:D4 X.env.scope x:=by first|exact P7 rfl|exact Pi rfl)(hs:Q1 e (some (.Name x pos')) pos.line X.env=pure false:=by rfl)
 (hf:X.fn x=true\/X.env.scope.names.lookup x=some .local:=by first|exact .inl rfl|exact .inr rfl|assumption):DS X c k (.Assign [.Name x pos'] e pos) (gH i f):=λρ=>PS.imp (uN hn hi hx (uM λhid=>he hid ρ) hs hf) λD σ H hq_=>by
 obtain⟨hid,sr,q⟩:=hq_;unfold gH at q;cases e1:f ρ with
 |none=>rw[e1] at q;exact q.elim
 |some z=>
  rw[e1] at q;exact⟨hid,sr,z,e1,λv H' s r=>Ls (sr.post s r (by decide)) q⟩
def Bx(i:Nat)(ρ:aF):aF:=match xp ρ[i]? with
 |some ds=>ρ.set i (.v (.lst ds))
 |none=>ρ
theorem SR.freeze {K:NU}{hid:bN}{ρ:aF}{σ:St}{H:Hp}(h:SR K c hid ρ σ H)(i:Nat): ∃hid',SR K c hid' (Bx i ρ) σ H/\Same (vw H hid) (vw H hid'):=by
 unfold Bx;cases e0:xp ρ[i]? with
 |none=>exact⟨hid,h,Same.refl _⟩
 |some ds=>
  have e:=r9 e0;obtain⟨a,xs,z1,z2,z3,z4,z5⟩:=h.sl i _ e;have sm:Same (vw H hid) (vw H (wg hid a)):=g8 λb w=>by unfold wg at w;rw[NQ] at w;exact w.1
  have un: ∀b,b≠a->hid b=true->wg hid a b=true:=λb n w=>by unfold wg;rw[w];simp[n]
  have na:c.hid₀ a=false:=by
   cases q:c.hid₀ a with
   |false=>rfl
   |true=>obtain⟨o,w⟩:=h.c0 a q;rw[z4] at w;cases w
  refine⟨wg hid a,⟨λb w=>h.tr b (by unfold wg at w;rw[NQ] at w;exact w.1),λb xs w=>h.ht b xs (by unfold wg at w;rw[NQ] at w;exact w.1),λb w=>un b (λe=>by subst e;rw[na] at w;cases w) (h.h0 b w),h.kp,h.t0,h.c0,h.m0,by simp[h.len],λj s q=>?_,λj l z n o1 o2 q1 q2=>?_⟩,sm⟩
  ·by_cases ej:j=i
   ·subst ej;rw[Og (NY.mp e).1] at q;cases q;exact⟨_,z1,.lst (vw_some.mpr ⟨by unfold wg;simp,z2⟩) (z5.mono sm)⟩
   ·rw[N7 (OX ej)] at q;have w:=h.sl j s q;cases s with
    |no=>trivial
    |v d=>obtain⟨x,h1,h2⟩:=w;exact⟨x,h1,h2.mono sm⟩
    |own ds=>
     obtain⟨a',xs,h1,h2,h3,h4,h5⟩:=w;exact⟨a',xs,h1,h2,un a' (λe'=>by subst e';exact h.ap j i _ ej (by rw[q];trivial) (by rw[e];trivial) h1 z1) h3,h4,h5.mono sm⟩
    |arg ds=>
     obtain⟨a',xs,h1,h2,h3,h4,h5⟩:=w;exact⟨a',xs,h1,h2,un a' (λe'=>by subst e';exact h.ap j i _ ej (by rw[q];trivial) (by rw[e];trivial) h1 z1) h3,h4,h5.mono sm⟩
    |ob b=>
     obtain⟨a',h1,h2⟩:=w;exact⟨a',h1,h2.mono (λ_ _ _ _ q=>q) sm λow x hx=>un x (hx.ne (λe'=>by subst e';exact h.ap j i _ ej (by rw[q];exact ow) (by rw[e];trivial) h1 z1) z2)⟩
  ·have nj: ∀m,Ow (ρ.set i (.v (.lst ds)))[m]? ->m≠i:=λm o e'=>by
    subst e'
    by_cases lt:m<ρ.length
    ·rw[Og lt] at o;exact o
    ·rw[O8 (by simpa using lt)] at o;exact o
   have e1:=nj j o1;have e2:=nj l o2;rw[N7 (OX e1)] at o1;rw[N7 (OX e2)] at o2;exact h.ap j l z n o1 o2 q1 q2
theorem JR(i:Nat)(h:DS X c k st t):DS X c k st (λρ=>t (Bx i ρ)):=λρ=>PS.imp (h (Bx i ρ)) λD σ H hq_=>by
 obtain⟨hid,sr,q⟩:=hq_;obtain⟨hid',sr',sm⟩:=sr.freeze i;exact⟨hid',sr',EndOk.mono q sm⟩
def cu(f:GE):FS:=λρ=>match f ρ with
 |some (_,ρ')=>.nx ρ'
 |none=>.no
theorem ja {f:GE}(he:DE X c .s e f)(hs:Q1 e none pos.line X.env=pure false:=by rfl):DS X c k (.Expr e pos) (cu f):=λρ=>PS.imp (FI (uM λhid=>he hid ρ) hs) λD σ H hq_=>by
 obtain⟨hid,sr,q⟩:=hq_;unfold cu at q;cases e1:f ρ with
 |none=>rw[e1] at q;exact q.elim
 |some z=>
  rw[e1] at q;exact⟨hid,sr,z.1,z.2,e1,λv H' ⟨kp,s',_⟩=>q _ H' hid s' kp.vw⟩
def LV(K:NU)(r:V->List V->Hp->VK->Prop)(n:Nat)(M:List D->List D->Option (D×List D)):Prop:= ∀(H:Hp) (hid:bN) (a:Addr) (xs us:List V) (bs ds bs':List D) (d:D) (Q:VK),H a=some (.lst xs)->hid a=true->Reps K (vw H hid) xs bs->Reps K (vw H hid) us ds->
 ds.length=n->M bs ds=some (d,bs')->(∀w xs',Reps K (vw H hid) xs' bs'->Rep K (vw H hid) w d->Q w (cm H a (.lst xs')))->r (.ref a) us H Q
theorem KG {K:NU}{r:V->List V->Hp->VK->Prop}{n:Nat}{M:List D->List D->Option (D×List D)}(hM:LV K r n M){hid:bN}{ρ1:aF}{σ:St}{H H1:Hp}{a:Addr}{us:List V}{bs ds bs':List D}{d:D}{Q:VK}(k1:Kept hid H H1)(s1:SR K c hid ρ1 σ H1)(e2:i9 i ρ1=some bs)
 (ha:σ[i]? =some (some (.ref a))) (r1:Reps K (vw H1 hid) us ds) (hn:ds.length=n) (hm:M bs ds=some (d,bs')) (q: ∀v H',PostE K c hid .s (ig i bs' ρ1) σ H H' v d->Q v H'):r (.ref a) us H1 Q:=by
 obtain⟨a',xs,b1,b2,b3,b4,b5⟩:=s1.held e2;rw[ha] at b1;cases b1;refine hM H1 hid a xs us bs ds bs' d Q b2 b3 b4 r1 hn hm λw xs' rx rw'=>q w _ ⟨k1.trans λb o z hb=>?_,?_,?_⟩
 ·rw[aR (λe=>by subst e;rw[b3] at hb;cases hb)];exact z
 ·exact s1.put e2 ha (λb o z hb=>by rw[aR hb];exact z) ba (by rw[fX b3];exact rx)
 ·rw[fX b3];exact rw'
variable {n:Nat}{M:List D->List D->Option (D×List D)}{fs:GA}{r:V->List V->Hp->VK->Prop}{y name:Str}{py apos:Pos}{id:String}
theorem kN(i:Nat)(hM:LV X.K r n M)(hm:M2 X id r)(slot:Slot "list" name id)(hty:typeOf (.builtin id)=pure (.type "method_descriptor"))(ha:DG X c (e::es) fs)
 (hN:X.N[i]? =some y:=by rfl) (hv:xG X.env.scope y:=by first|exact P7 rfl|exact Pi (P7 rfl)|exact Pi (Pi rfl)) (hd:(y==("__debug__":Str))=false:=by decide) (hcd:(y==("__classdict__":Str))=false:=by decide)
 (hbase:SL (.Name y py) name X.env (eval (.Name y py) X.env)=eval (.Name y py) X.env:=by rfl)
 (hfew:((Ql pos (N8 (e::es) X.env)).all (λx=> !x.1)&&(V8 pos (TQ [] X.env)).all (λx=>x.1.isSome)
   &&decide ((e::es).length+([]:List S9).length+(if([]:List S9).isEmpty then 0 else 1)<30))=true:=by rfl)
 (hline:(apos.endLine==pos.line)=true:=by rfl) (hs:N8 (e::es) X.env=(false,eval e X.env)::N8 es X.env:=by rfl) (hplain:(Ql pos (N8 es X.env)).any (·.1)=false:=by rfl):
 DE X c .s (.Call (.Attribute (.Name y py) name apos) (e::es) [] pos) (aQ i n M fs):=λhid ρ=>
 PE.imp (Af PySem.F.plainAttrs_list slot hty hm (pv i hN hv hd hcd) (ha hid ρ) hbase hfew hline hs hplain) λσ H Q hq_=>by
  obtain⟨sr,d,ρ',hd',q⟩:=hq_;obtain⟨bs0,ds,ρ1,bs,bs',e0,e1,e2,e3,e4,rfl⟩:=qA hd';obtain⟨a,xs0,a1,a2,a3,_,_⟩:=sr.held e0;exact⟨.ref a,a1,.inl ⟨rfl,_,SqL.of a2⟩,sr,ds,ρ1,e1,λus H1 k1 s1 r1=>KG hM k1 s1 e2 a1 r1 e3 e4 q⟩
end
section
variable {K:NU}
def ic:List D->List D->Option (D×List D):=λbs ds=>match ds with
 | [d]=>if bs.length<Oi then some (.non,bs++[d]) else none
 |_=>none
theorem iA:LV K zq 1 ic:=by
 intro H hid a xs us bs ds bs' d Q h1 h2 h3 h4 h5 h6 q;unfold ic at h6;split at h6
 ·split at h6
  ·cases h6;cases h4 with
   |cons r t=>
    cases t;exact⟨a,xs,_,rfl,rfl,h1,by rw[h3.length];assumption,q _ _ (h3.append (.cons r .nil)) .non⟩
  ·cases h6
 ·cases h6
def rL:List D->List D->Option (D×List D):=λbs ds=>match ds with
 | [.int i]=>match (if bs.length<=Oi then wS bs.length i else none) with
   |some j=>(bs[j]?).map λd=>(d,bs.eraseIdx j)
   |none=>none
 |_=>none
theorem Jf:LV K CL 1 rL:=by
 intro H hid a xs us bs ds bs' d Q h1 h2 h3 h4 h5 h6 q;unfold rL at h6;split at h6
 ·split at h6
  ·rename_i i _ j e
   cases e1:bs[j]? with
   |none=>rw[e1] at h6;cases h6
   |some z=>
    rw[e1] at h6;cases h6;cases h4 with
    |cons r t=>
     cases t;cases r;obtain⟨x,g1,g2⟩:=h3.get e1;split at e
     ·obtain⟨w1,w2,w3,w4⟩:=uD e;have hl:=h3.length;have l63:=l6;refine⟨a,xs,i,j,x,rfl,rfl,h1,by omega,by omega,by rw[hl];exact w1,g1,q _ _ (h3.eraseIdx j) g2⟩
     ·cases e
  ·cases h6
 ·cases h6
end
abbrev FG:=D->aF->Option aF
abbrev si:=List D->aF->Option aF
def OwK(ρ ρ':aF)(σ σ':St):Prop:= ∀i:Nat,Ow ρ'[i]? ->Ow ρ[i]? /\σ'[i]? =σ[i]?
theorem OwK.trans {ρ ρ1 ρ2:aF}{σ σ1 σ2:St}(a:OwK ρ ρ1 σ σ1)(b:OwK ρ1 ρ2 σ1 σ2):OwK ρ ρ2 σ σ2:=λi o=>⟨(a i (b i o).1).1,(b i o).2.trans (a i (b i o).1).2⟩
def Mh {ι:Type}(IR:Hp->V->ι->Prop)(K:NU)(c:Ct)(hid:bN)(g:ι->aF->Option aF)(ρ:aF)(d:ι):TG:=λv σ H Q=>SR K c hid ρ σ H/\IR (vw H hid) v d/\ ∃ρ',g d ρ=some ρ'/\ ∀σ',SR K c hid ρ' σ' H->OwK ρ ρ' σ σ'->Q σ' H
def L4 {ι:Type}(IR:Hp->V->ι->Prop)(X:Cx)(c:Ct)(tg:Expr)(g:ι->aF->Option aF):Prop:= ∀hid ρ d,PG X tg (Mh IR X.K c hid g ρ d)
abbrev tx(X:Cx)(c:Ct)(tg:Expr)(g:FG):Prop:=L4 (Rep X.K) X c tg g
def Md(K:NU)(c:Ct)(hid:bN)(g:si)(ρ:aF)(d:List D):Bi:=λv σ H Q=>SR K c hid ρ σ H/\Reps K (vw H hid) v d/\ ∃ρ',g d ρ=some ρ'/\ ∀σ',SR K c hid ρ' σ' H->OwK ρ ρ' σ σ'->Q σ' H
def Lz(X:Cx)(c:Ct)(tg:List Expr)(g:si):Prop:= ∀hid ρ d,PGs X tg (Md X.K c hid g ρ d)
theorem PG.imp {X:Cx}{e:Expr}{t t':TG}(h:PG X e t)(i: ∀v σ H Q,t' v σ H Q->t v σ H Q):PG X e t':=λah s σ H v u Q I r q=>h ah s σ H v u Q I r (i v σ H Q q)
theorem PGs.imp {X:Cx}{e:List Expr}{t t':Bi}(h:PGs X e t)(i: ∀v σ H Q,t' v σ H Q->t v σ H Q):PGs X e t':=λah s σ H v u Q I r q=>h ah s σ H v u Q I r (i v σ H Q q)
theorem DN {X:Cx}{e:Expr}{α:Type}{t:α->TG}(h: ∀z,PG X e (t z)):PG X e (λv σ H Q=> ∃z,t z v σ H Q):=λah s σ H v u Q I r ⟨z,q⟩=>h z ah s σ H v u Q I r q
theorem u4 {X:Cx}{e:List Expr}{α:Type}{t:α->Bi}(h: ∀z,PGs X e (t z)):PGs X e (λv σ H Q=> ∃z,t z v σ H Q):=λah s σ H v u Q I r ⟨z,q⟩=>h z ah s σ H v u Q I r q
section
variable {X:Cx}{c:Ct}{k:Kd}{st:Stmt}{sts body:List Stmt}{t u:FS}{e tg iter:Expr}{es:List Expr}{pos pos':Pos}{x:Str}{i:Nat}
def gN(i:Nat):FG:=λd ρ=>some (ρ.set i (.v d))
theorem au(i:Nat)(hn:X.N.Nodup)(hi:X.N[i]? =some x:=by rfl)(hx:D4 X.env.scope x:=by first|exact P7 rfl|exact Pi rfl)(hf:X.fn x=true\/X.env.scope.names.lookup x=some .local:=by first|exact .inl rfl|exact .inr rfl|assumption):
 tx X c (.Name x pos) (gN i):=λhid ρ d=>PG.imp (Hk (i:=i) hn hi hx hf) λv σ H Q hq_=>by
 obtain⟨sr,r,ρ',e,q⟩:=hq_;cases e;refine q _ (sr.setV r i) λj o=>?_
 have ne:j≠i:=λe=>by
  subst e
  by_cases lt:j<ρ.length
  ·rw[Og lt] at o;exact o
  ·rw[O8 (by simpa using lt)] at o;exact o
 rw[N7 (OX ne)] at o⊢;exact⟨o,rfl⟩
def gU:si:=λds ρ=>match ds with
 | []=>some ρ
 |_=>none
def cQ(g:FG)(gs:si):si:=λds ρ=>match ds with
 | []=>none
 |d::r=>(g d ρ).bind λρ'=>gs r ρ'
theorem bV:Lz X c [] gU:=λhid ρ d=>PGs.imp zV λv σ H Q hq_=>by
 obtain⟨sr,r,ρ',e,q⟩:=hq_;unfold gU at e;split at e
 ·cases e;cases r;exact⟨rfl,q σ sr λi o=>⟨o,rfl⟩⟩
 ·cases e
theorem aG {g:FG}{gs:si}(h1:tx X c e g)(h2:Lz X c es gs)(hs:(Ps (e::es) X.env).map (·.2)=Q2 e X.env::(Ps es X.env).map (·.2):=by rfl):Lz X c (e::es) (cQ g gs):=λhid ρ d=>
 PGs.imp (wT (DN λd=>h1 hid ρ d) (u4 λz:aF×List D=>h2 hid z.1 z.2) hs) λv σ H Q hq_=>by
  obtain⟨sr,r,ρ',e,q⟩:=hq_;cases d with
  |nil=>cases e
  |cons d1 ds=>
   cases r with
   |cons r1 r2=>
    have e:(g d1 ρ).bind (λρ'=>gs ds ρ')=some ρ':=e;cases e1:g d1 ρ with
    |none=>rw[e1] at e;cases e
    |some ρ1=>
     rw[e1] at e;exact⟨_,_,rfl,d1,sr,r1,ρ1,e1,λσ1 s1 o1=>⟨(ρ1,ds),s1,r2,ρ',e,λσ2 s2 o2=>q σ2 s2 (o1.trans o2)⟩⟩
def gT(n:Nat)(gs:si):FG:=λd ρ=>match d with
 | .tup ds=>if ds.length=n then gs ds ρ else none
 |_=>none
theorem cw {gs:si}{kk n:Nat}(hc:X.calm=true)(h:Lz X c es gs)(hn:(Ps es X.env).length=n:=by rfl)(hst:(Ps es X.env).findIdx? (·.1)=none:=by rfl):tx X c (.Tuple es kk pos) (gT n gs):=λhid ρ d=>
 PG.imp (Dw hc (u4 λds=>h hid ρ ds) hn hst) λv σ H Q hq_=>by
  obtain⟨sr,r,ρ',e,q⟩:=hq_;unfold gT at e;split at e
  ·split at e
   ·cases r with
    |tup h1 h2=>exact⟨_,_,rfl,Same.seqT (di _ _) h1,by rw[h2.length];assumption,_,sr,h2,ρ',e,q⟩
   ·cases e
  ·cases e
def JL:Option aF->Out
 |some ρ=>.nx ρ
 |none=>.no
def cy(g:FG)(f:GE):FS:=λρ=>match f ρ with
 |some z=>JL (g z.1 z.2)
 |none=>.no
theorem fj {g:FG}{f:GE}(he:DE X c .s e f)(hg:tx X c tg g)(hs:VE [tg] e pos.line X.env=pure false:=by rfl)(hw:VF [tg] e X.env=pure none:=by rfl)
 (h1:(Ps [tg] X.env).map (·.2)=[Q2 tg X.env]:=by rfl):DS X c k (.Assign [tg] e pos) (cy g f):=λρ=>
 PS.imp (EV (uM λhid=>he hid ρ) (DN λz:bN×aF×D=>hg z.1 z.2.1 z.2.2) hs hw h1) λD σ H hq_=>by
  obtain⟨hid,sr,q⟩:=hq_;unfold cy at q;cases e1:f ρ with
  |none=>rw[e1] at q;exact q.elim
  |some z=>
   rw[e1] at q;cases e2:g z.1 z.2 with
   |none=>dsimp only at q;rw[e2] at q;exact q.elim
   |some ρ2=>
    dsimp only at q;rw[e2] at q;exact⟨hid,sr,z.1,z.2,e1,λv H' ⟨kp,s',r⟩=>⟨(hid,z.2,z.1),s',r,ρ2,e2,λσ' s2 _=>q σ' H' hid s2 kp.vw⟩⟩
def cT(i:Nat)(fi:FE)(d:D)(ρ:aF):Option aF:=match i9 i ρ with
 |some bs=>(match fi ρ with
  |some (.int j)=>(match wS bs.length j with
   |some m=>some (ig i (bs.set m d) ρ)
   |none=>none)
  |_=>none)
 |none=>none
theorem xU {fi:FE}{d:D}{ρ ρ':aF}(h:cT i fi d ρ=some ρ'): ∃bs j m,i9 i ρ=some bs/\fi ρ=some (.int j)/\wS bs.length j=some m/\ρ'=ig i (bs.set m d) ρ:=by
 unfold cT at h;split at h
 ·split at h
  ·split at h
   ·cases h;exact⟨_,_,_, ‹_›, ‹_›, ‹_›,rfl⟩
   ·cases h
  ·cases h
 ·cases h
def ME(K:NU)(c:Ct)(hid:bN)(g:FG)(ρ:aF)(d:D):TG:=λv σ H Q=>SR K c hid ρ σ H/\Rep K (vw H hid) v d/\ ∃ρ',g d ρ=some ρ'/\ ∀H',Kept hid H H'->SR K c hid ρ' σ H'->Q σ H'
def LQ(X:Cx)(c:Ct)(tg:Expr)(g:FG):Prop:= ∀hid ρ d,PG X tg (ME X.K c hid g ρ d)
theorem jg(i:Nat){y:Str}{py:Pos}{ix:Expr}{fi:FE}{k1:Kd}(hi:DP X c k1 ix fi)(hN:X.N[i]? =some y:=by rfl)(hv:xG X.env.scope y:=by first|exact P7 rfl|exact Pi (P7 rfl)|exact Pi (Pi rfl))(hd:(y==("__debug__":Str))=false:=by decide)(hcd:(y==("__classdict__":Str))=false:=by decide)
 (ha: ∀v,Q2 (.Subscript (.Name y py) ix pos) X.env v=(do
   let ov <-TJ [v] (eval (.Name y py) X.env)
   let iv <-TJ [v,ov] (eval ix X.env)
   TL pos
   TJ [v,ov,iv] (setItem ov iv v)
   release [v,ov,iv] []):=by intro _;rfl):LQ X c (.Subscript (.Name y py) ix pos) (cT i fi):=λhid ρ d=>
 PG.imp (HU (pv i hN hv hd hcd) (hi hid ρ) EF ha) λv σ H Q hq_=>by
  obtain⟨sr,r,ρ',e,q⟩:=hq_;obtain⟨bs,j,m,e1,e2,e3,rfl⟩:=xU e;obtain⟨a,xs,a1,a2,a3,a4,a5⟩:=sr.held e1;refine⟨.ref a,a1,sr,_,e2,λw H1 s1 r1=>?_⟩;have b1:=(RK.b k1 r1 λa n=>sr.fresh n).int;cases b1;have a4':=a4.mono (aY (hid:=hid) s1);refine⟨a,xs,j,m,rfl,rfl,s1 _ _ a2,by rw[a4.length];exact e3,q _ (λb o z hb=>?_) ?_⟩
  ·rw[aR (λe=>by subst e;rw[a3] at hb;cases hb)];exact s1 _ _ z
  ·exact(sr.ext s1).put e1 a1 (λb o z hb=>by rw[aR hb];exact z) ba (by rw[fX a3];exact Reps.set (r.mono (aY s1)) m a4')
theorem p6 {g:FG}{f:GE}(he:DE X c .s e f)(hg:LQ X c tg g)(hs:VE [tg] e pos.line X.env=pure false:=by rfl)(hw:VF [tg] e X.env=pure none:=by rfl)
 (h1:(Ps [tg] X.env).map (·.2)=[Q2 tg X.env]:=by rfl):DS X c k (.Assign [tg] e pos) (cy g f):=λρ=>
 PS.imp (EV (uM λhid=>he hid ρ) (DN λz:bN×aF×D=>hg z.1 z.2.1 z.2.2) hs hw h1) λD σ H hq_=>by
  obtain⟨hid,sr,q⟩:=hq_;unfold cy at q;cases e1:f ρ with
  |none=>rw[e1] at q;exact q.elim
  |some z=>
   rw[e1] at q;cases e2:g z.1 z.2 with
   |none=>dsimp only at q;rw[e2] at q;exact q.elim
   |some ρ2=>
    dsimp only at q;rw[e2] at q;exact⟨hid,sr,z.1,z.2,e1,λv H' ⟨kp,s',r⟩=>⟨(hid,z.2,z.1),s',r,ρ2,e2,λH2 k2 s2=>q σ H2 hid s2 (kp.trans k2).vw⟩⟩
def Mz(K:NU)(c:Ct)(hid:bN)(g:si)(ρ:aF)(d:List D):Bi:=λv σ H Q=>SR K c hid ρ σ H/\Reps K (vw H hid) v d/\ ∃ρ',g d ρ=some ρ'/\ ∀H',Kept hid H H'->SR K c hid ρ' σ H'->Q σ H'
def LY(X:Cx)(c:Ct)(tg:List Expr)(g:si):Prop:= ∀hid ρ d,PGs X tg (Mz X.K c hid g ρ d)
theorem Ah:LY X c [] gU:=λhid ρ d=>PGs.imp zV λv σ H Q hq_=>by
 obtain⟨sr,r,ρ',e,q⟩:=hq_;unfold gU at e;split at e
 ·cases e;cases r;exact⟨rfl,q H (.of (Same.refl _)) sr⟩
 ·cases e
theorem mW {g:FG}{gs:si}(h1:LQ X c e g)(h2:LY X c es gs)(hs:(Ps (e::es) X.env).map (·.2)=Q2 e X.env::(Ps es X.env).map (·.2):=by rfl):LY X c (e::es) (cQ g gs):=λhid ρ d=>
 PGs.imp (wT (DN λd=>h1 hid ρ d) (u4 λz:aF×List D=>h2 hid z.1 z.2) hs) λv σ H Q hq_=>by
  obtain⟨sr,r,ρ',e,q⟩:=hq_;cases d with
  |nil=>cases e
  |cons d1 ds=>
   cases r with
   |cons r1 r2=>
    have e:(g d1 ρ).bind (λρ'=>gs ds ρ')=some ρ':=e;cases e1:g d1 ρ with
    |none=>rw[e1] at e;cases e
    |some ρ1=>
     rw[e1] at e;exact⟨_,_,rfl,d1,sr,r1,ρ1,e1,λH1 k1 s1=>⟨(ρ1,ds),s1,r2.mono k1.vw,ρ',e,λH2 k2 s2=>q H2 (k1.trans k2) s2⟩⟩
theorem zj {gs:si}{kk n:Nat}(hc:X.calm=true)(h:LY X c es gs)(hn:(Ps es X.env).length=n:=by rfl)(hst:(Ps es X.env).findIdx? (·.1)=none:=by rfl):LQ X c (.Tuple es kk pos) (gT n gs):=λhid ρ d=>
 PG.imp (Dw hc (u4 λds=>h hid ρ ds) hn hst) λv σ H Q hq_=>by
  obtain⟨sr,r,ρ',e,q⟩:=hq_;unfold gT at e;split at e
  ·split at e
   ·cases r with
    |tup h1 h2=>exact⟨_,_,rfl,Same.seqT (di _ _) h1,by rw[h2.length];assumption,_,sr,h2,ρ',e,q⟩
   ·cases e
  ·cases e
def ItOk(K:NU)(W:Hp)(J:It)(ds:List D):Prop:=
 (∀(i:Nat) (d:D) (H:Hp),ds[i]? =some d->Same W H->J.go i H/\ ∀x H',J.yld i H x H'->Same H H'/\ ∀hid:bN,(∀b,hid b=true-> ∃o,H b=some o)->Same W (vw H hid)->Rep K (vw H' hid) x d)/\ ∀H,Same W H->J.stop ds.length H
def Nz(K:NU)(c:Ct)(hid:bN)(f:GA)(ρ:aF):TI:=λσ H R=>SR K c hid ρ σ H/\ ∃ds ρ',f ρ=some (ds,ρ')/\ ∀J H',Kept hid H H'->SR K c hid ρ' σ H'->ItOk K (vw H' hid) J ds->R J H'
def DI(X:Cx)(c:Ct)(tg iter:Expr)(f:GA):Prop:= ∀hid ρ,PI X tg iter (Nz X.K c hid f ρ)
theorem PI.imp {t t':TI}(h:PI X tg iter t)(i: ∀σ H Q,t' σ H Q->t σ H Q):PI X tg iter t':=λah s σ H R I q=>h ah s σ H R I (i σ H R q)
theorem MJ {α:Type}{t:α->TI}(h: ∀z,PI X tg iter (t z)):PI X tg iter (λσ H R=> ∃z,t z σ H R):=λah s σ H R I ⟨z,q⟩=>h z ah s σ H R I q
def yI(f:GE):GA:=λρ=>match f ρ with
 |some (.lst ds,ρ')=>some (ds,ρ')
 |_=>none
theorem Ey {K:NU}{W:Hp}{a:Addr}{xs:List V}{ds:List D}(h:SqT K W a xs)(r:Reps K W xs ds):ItOk K W (Mo K a) ds:=by
 refine⟨λi d H e s=>?_,λH s=>⟨xs,Same.seqT s h,by rw[r.length];exact NT _⟩⟩;obtain⟨x,e1,r1⟩:=r.get e;refine⟨⟨xs,x,Same.seqT s h,e1⟩,λy H' ⟨e2,e3⟩=>?_⟩;subst e2;have:=e3 xs (Same.seqT s h);rw[e1] at this;cases this;exact⟨Same.refl _,λhid _ sw=>r1.mono sw⟩
theorem Aj {f:GE}(h:DE X c .s iter f):DI X c tg iter (yI f):=λhid ρ=>PI.imp (zc (h hid ρ)) λσ H R hq_=>by
 obtain⟨sr,ds,ρ',e,q⟩:=hq_;unfold yI at e;split at e
 ·rename_i ds' ρ1 e1
  cases e;refine⟨sr,.lst ds,ρ',e1,λv H' ⟨kp,s',r⟩=>?_⟩;cases r with
  |lst h1 h2=>have h1:=SqL.of (K:=X.K) h1;exact⟨_,rfl,⟨_,(di _ _).seq h1⟩,q _ H' kp s' (by
    refine⟨λi d H e s=>?_,λH s=>⟨_,s.seq h1,by rw[h2.length];exact NT _⟩⟩;obtain⟨x,e1,r1⟩:=h2.get e;refine⟨⟨_,x,s.seq h1,e1⟩,λy H' ⟨e2,e3⟩=>?_⟩;subst e2;have:=e3 _ (s.seq h1)
    rw[e1] at this;cases this;exact⟨Same.refl _,λhid _ sw=>r1.mono sw⟩)⟩
 ·cases e
def BC(lo:Int)(n:Nat):List D:=(ND n).map λ(i:Nat)=>D.int (lo+i)
theorem xR {K:NU}{W:Hp}{lo:Int}{n:Nat}:ItOk K W (LN lo n) (BC lo n):=by
 refine⟨λi d H e s=>?_,λH s=>by show n<=(BC lo n).length;simp[BC]⟩;unfold BC at e;rw[OH] at e;cases e1:(ND n)[i]? with
 |none=>rw[e1] at e;cases e
 |some j=>
  rw[e1] at e;obtain⟨h1,h2⟩:=NY.mp e1;simp at h1 h2;subst h2;cases e;refine⟨h1,λy H' ⟨e2,e3⟩=>?_⟩;subst e2 e3;exact⟨Same.refl _,λhid _ sw=>.int⟩
def fO(g:FG)(b:FS):List D->FS
 | [],ρ=>.nx ρ
 |d::r,ρ=>match g d ρ with
  |none=>.no
  |some ρ1=>match b ρ1 with
   | .nx ρ2=>fO g b r ρ2
   | .ct ρ2=>fO g b r ρ2
   | .bk ρ2=>.nx ρ2
   | .rt d ρ2=>.rt d ρ2
   | .no=>.no
def jn(f:GA)(g:FG)(b:FS):FS:=λρ=>match f ρ with
 |some (ds,ρ')=>fO g b ds ρ'
 |none=>.no
theorem lZ {f:GA}{g:FG}{tb:FS}(hp:Wx (model X.prog X.w) X.A X.env X.xe)(hc:X.calm=true)(hi:DI X c tg iter f)(hg:tx X c tg g)(hb:ze X c k body tb)
 (hs: ∀x,O6 iter X.env x=pure x:=by intro _;rfl):DS X c k (.For tg iter body [] pos) (jn f g tb):=λρ=>
 PS.imp (Ib hp hc (MJ λhid=>hi hid ρ) (DN λz:bN×aF×D=>hg z.1 z.2.1 z.2.2) (CW λρ=>hb ρ) hs) λD σ H hq_=>by
  obtain⟨hid,sr,q⟩:=hq_;unfold jn at q;cases e1:f ρ with
  |none=>rw[e1] at q;exact q.elim
  |some z=>
   obtain⟨ds,ρ0⟩:=z;rw[e1] at q;have q':EndOk X.K c k D (vw H hid) (fO g tb ds ρ0):=q;refine⟨hid,sr,ds,ρ0,e1,λJ H1 kp s1 it=>?_⟩;refine⟨λi m σ H=>m=ds.length-i/\i<=ds.length/\ ∃hid2 ρ2,SR X.K c hid2 ρ2 σ H/\Same (vw H1 hid) (vw H hid2)/\EndOk X.K c k D (vw H hid2) (fO g tb (ds.drop i) ρ2),⟨ds.length,by simp,Pe _,hid,ρ0,s1,Same.refl _,EndOk.mono q' kp.vw⟩,?_⟩;rintro i m σ2 H2 ⟨rfl,hi',hid2,ρ2,s2,w2,q2⟩;have wH:Same (vw H1 hid) H2:=w2.trans (di _ _)
   by_cases hlt:i<ds.length
   ·have hd:ds[i]? =some ds[i]:=NL hlt;have e2:ds.drop i=ds[i]::ds.drop (i+1):=PH hlt;rw[e2] at q2;unfold fO at q2;obtain⟨go,yl⟩:=it.1 i ds[i] H2 hd wH;refine .inr ⟨go,λσ' H'=> ∃hid3 ρ3,SR X.K c hid3 ρ3 σ' H'/\Same (vw H1 hid) (vw H' hid3)/\EndOk X.K c k D (vw H' hid3) (fO g tb (ds.drop (i+1)) ρ3),λσ' H' n3=>⟨ds.length- (i+1),by omega,rfl,hlt,n3⟩,λx H3 y=>?_⟩;obtain⟨s3,rp⟩:=yl x H3 y;have rx:=rp hid2 s2.tr w2;cases e3:g ds[i] ρ2 with
    |none=>rw[e3] at q2;exact q2.elim
    |some ρ3=>
     rw[e3] at q2;refine⟨(hid2,ρ2,ds[i]),s2.ext s3,rx,ρ3,e3,λσ4 s4 _=>⟨ρ3,hid2,s4,?_⟩⟩;have w3:Same (vw H2 hid2) (vw H3 hid2):=aY s3;dsimp only at q2;cases e4:tb ρ3 with
     |nx ρ5=>rw[e4] at q2;exact λσ' H' hid' z w=>⟨hid',ρ5,z,(w2.trans w3).trans w,EndOk.mono q2 (w3.trans w)⟩
     |ct ρ5=>rw[e4] at q2;exact λσ' H' hid' z w=>⟨hid',ρ5,z,(w2.trans w3).trans w,EndOk.mono q2 (w3.trans w)⟩
     |bk ρ5=>rw[e4] at q2;exact λσ' H' hid' z w=>q2 σ' H' hid' z (w3.trans w)
     |rt d ρ5=>rw[e4] at q2;exact q2
     |no=>rw[e4] at q2;exact q2.elim
   ·have e:i=ds.length:=by omega
    subst e;rw[Qw (NT _)] at q2;exact .inl ⟨it.2 H2 wH,q2 σ2 H2 hid2 s2 (Same.refl _)⟩
def u0(p:FT)(b:FS):Nat->FS
 |0,_=>.no
 |n+1,ρ=>match p ρ with
  |none=>.no
  |some false=>.nx ρ
  |some true=>match b ρ with
   | .nx ρ2=>u0 p b n ρ2
   | .ct ρ2=>u0 p b n ρ2
   | .bk ρ2=>.nx ρ2
   | .rt d ρ2=>.rt d ρ2
   | .no=>.no
theorem xf(n:Nat){p:FT}{tb:FS}(hp:Wx (model X.prog X.w) X.A X.env X.xe)(hc:DT X c e p)(hb:ze X c k body tb):DS X c k (.While e body [] pos) (u0 p tb n):=λρ=>
 PS.imp (Ep hp (LL λz:bN×aF=>hc z.1 z.2) (CW λρ=>hb ρ)) λD σ H hq_=>by
  obtain⟨hid,sr,q⟩:=hq_;refine⟨λm σ H=> ∃hid2 ρ2,SR X.K c hid2 ρ2 σ H/\EndOk X.K c k D (vw H hid2) (u0 p tb m ρ2),⟨n,hid,ρ,sr,q⟩,?_⟩;rintro m σ2 H2 ⟨hid2,ρ2,s2,q2⟩;cases m with
  |zero=>exact q2.elim
  |succ m=>
   unfold u0 at q2;cases e1:p ρ2 with
   |none=>rw[e1] at q2;exact q2.elim
   |some b=>
    rw[e1] at q2;refine⟨(hid2,ρ2),s2,b,e1,λH3 s3=>?_⟩;cases b with
    |false=>exact yk (q2 σ2 H3 hid2 (s2.ext s3) (aY s3))
    |true=>
     refine xz ⟨λσ' H'=> ∃hid3 ρ3,SR X.K c hid3 ρ3 σ' H'/\EndOk X.K c k D (vw H' hid3) (u0 p tb m ρ3),λσ' H' n3=>⟨m,O9 _,n3⟩,ρ2,hid2,s2.ext s3,?_⟩;have w3:Same (vw H2 hid2) (vw H3 hid2):=aY s3;dsimp only at q2;cases e4:tb ρ2 with
     |nx ρ5=>rw[e4] at q2;exact λσ' H' hid' z w=>⟨hid',ρ5,z,EndOk.mono q2 (w3.trans w)⟩
     |ct ρ5=>rw[e4] at q2;exact λσ' H' hid' z w=>⟨hid',ρ5,z,EndOk.mono q2 (w3.trans w)⟩
     |bk ρ5=>rw[e4] at q2;exact λσ' H' hid' z w=>q2 σ' H' hid' z (w3.trans w)
     |rt d ρ5=>rw[e4] at q2;exact q2
     |no=>rw[e4] at q2;exact q2.elim
end
def ka(n:Nat)(ds:List D):aF:=ds.map Sl.v++NR (n-ds.length) .no
def dP(kd:Kd)(n:Nat)(t:FS)(ds:List D):Option D:=match t (ka n ds) with
 | .rt d _=>some d
 | .nx _=>(match kd with
   | .n=>none
   |_=>some .non)
 |_=>none
def ud(n:Nat)(bs ds:List D):aF:=.arg bs::(ds.map Sl.v++NR (n-1-ds.length) .no)
def rE:aF->Option (List D)
 | .arg bs::_=>some bs
 |_=>none
def BZ(kd:Kd)(n:Nat)(t:FS)(bs ds:List D):Option (D×List D):=match t (ud n bs ds) with
 | .rt d ρ=>(rE ρ).map λb=>(d,b)
 | .nx ρ=>(match kd with
   | .n=>none
   |_=>(rE ρ).map λb=>(.non,b))
 |_=>none
theorem C8 {K:NU}{c:Ct}{hid:bN}{H:Hp}(m:Nat): ∀ {vs:List V} {ds:List D},Reps K (vw H hid) vs ds-> ∀(i:Nat) (s:Sl),(ds.map Sl.v++NR m .no)[i]? =some s->SlOk K c hid (vs.map some++NR m none) H i s:=by
 intro vs ds r i s e;have hl:=r.length
 by_cases hi:i<ds.length
 ·rw[OA (by simpa using hi),OH] at e;have e2:ds[i]? =some ds[i]:=NL hi;rw[e2] at e;cases e;obtain⟨x,h1,h2⟩:=r.get e2;exact⟨x,by rw[OA (by simp;omega),OH,h1];rfl,h2⟩
 ·rw[Ox (by simpa using hi),OZ] at e;split at e
  ·cases e;trivial
  ·cases e
theorem Id {ds:List D}{m i:Nat}: ¬Ow (ds.map Sl.v++NR m Sl.no)[i]? :=λo=>by
 by_cases hi:i<ds.length
 ·rw[OA (by simpa using hi),OH,NL hi] at o;exact o
 ·rw[Ox (by simpa using hi),OZ] at o;split at o<;>exact o
theorem SR.begins {K:NU}{hid:bN}{H:Hp}{N:List Str}{vs:List V}{ds:List D}(tr:Ka hid H)(r:Reps K (vw H hid) vs ds):SR K ⟨H,hid,λ_=>false⟩ hid (ka N.length ds) (start N vs) H:=by
 have hl:=r.length;unfold start ka;rw[hl];exact⟨tr.1,tr.2,λ_ h=>h,λ_ _ h _=>h,λb o h=>⟨o,h⟩,tr.1,(λ_ h=>nomatch h),by simp[hl],λi s e=>C8 _ r i s e,λi j a _ o=>absurd o Id⟩
section
variable {P:OI}{w:OT}{K:NU}{mg:Str->Option NG}{base:Heap}{x qual:Str}{st:Stmt}{f:Addr}{fd:QC}{N ps:List Str}{k:Nat}{t:FS}{kd:Kd}
theorem AK(F:Fun K x qual st f fd)(S:FnScope N ps (ax st))(hkd:kd≠ .b)
 (body: ∀(cdv:NG) (A:OL) (outer:List Env) (s:NH) (H:Hp) (hid:bN) (E:XK),Room k (A.deeper (SW qual (ax st) s.heap.objs.size f cdv))->
   ze (rM u3 P w K mg base N qual (ax st) f cdv A outer s H E).nox ⟨H,hid,λ_=>false⟩ kd (dw st) t):
 FnOk P w K mg base u3 (k+1) f fd ps (cb K kd ps.length (dP kd N.length t)):=by
 refine F.ok S (λvs H Q E h=>?_) (λcdv A outer s H vs Q E hr h=>?_)
 ·obtain⟨hid,ds,_,r,hl,_⟩:=h;rw[r.length,hl]
 ·obtain⟨hid,ds,tr,r,hl,d,hP,q⟩:=h;refine⟨_,body cdv A outer s H hid E hr (ka N.length ds),hid,SR.begins tr r,?_⟩;unfold dP at hP;cases e:t (ka N.length ds) with
  |nx ρ=>
   rw[e] at hP;intro σ' H' hid' sr _;have sm:Same H H':=λb o z=>sr.kp b o z rfl
   cases kd with
   |b=>exact absurd rfl hkd
   |s=>cases hP;exact q _ H' sm .non
   |n=>cases hP
  |rt d' ρ=>
   rw[e] at hP;cases hP;intro v H' R;have sm:Same H H':=λb o z=>R.kp b o z rfl
   cases kd with
   |b=>exact absurd rfl hkd
   |s=>exact q v H' sm R.val
   |n=>exact q v H' sm R.val
  |bk ρ=>rw[e] at hP;cases hP
  |ct ρ=>rw[e] at hP;cases hP
  |no=>rw[e] at hP;cases hP
theorem SR.beginsE {hid:bN}{H:Hp}{a:Addr}{xs us:List V}{bs ds:List D}(tr:Ka hid H)(ha:hid a=true)(hx:H a=some (.lst xs))(rb:Reps K (vw H hid) xs bs)(r:Reps K (vw H hid) us ds)(hN:0<N.length):
 SR K ⟨H,hid,λb=>decide (b=a)⟩ hid (ud N.length bs ds) (start N (.ref a::us)) H:=by
 have hl:=r.length;have es:start N (.ref a::us)=some (V.ref a)::(us.map some++NR (N.length-1-ds.length) none):=by
  unfold start;rw[NS,Ud,On,hl];congr 3;omega
 rw[es];unfold ud;refine⟨tr.1,tr.2,λ_ h=>h,λ_ _ h _=>h,λb o h=>⟨o,h⟩,tr.1,λb h=>?_,by simp[hl],λi s e=>?_,λi j z n o1 o2 q1 q2=>?_⟩
 ·have:b=a:=by simpa using h
  rw[this];exact ha
 ·cases i with
  |zero=>
   cases e;exact⟨a,xs,rfl,hx,ha,by simp,rb⟩
  |succ i=>
   have z:=C8 (c:=⟨H,hid,λb=>decide (b=a)⟩) (N.length-1-ds.length) r i s (by simpa using e);cases s with
   |no=>trivial
   |v d=>obtain⟨x,h1,h2⟩:=z;exact⟨x,by simpa using h1,h2⟩
   |own ds=>obtain⟨x,xs,h1,h2⟩:=z;exact⟨x,xs,by simpa using h1,h2⟩
   |arg ds=>obtain⟨x,xs,h1,h2⟩:=z;exact⟨x,xs,by simpa using h1,h2⟩
   |ob b=>obtain⟨x,h1,h2⟩:=z;exact⟨x,by simpa using h1,h2⟩
 ·cases i with
  |zero=>
   cases j with
   |zero=>exact n rfl
   |succ j=>exact Id (by simpa using o2)
  |succ i=>exact Id (by simpa using o1)
theorem A3 {ρ:aF}{b:List D}(h:rE ρ=some b):ρ[0]? =some (.arg b):=by
 unfold rE at h;split at h
 ·cases h;rfl
 ·cases h
theorem JN {n:Nat}(F:Fun K x qual st f fd)(S:FnScope N ps (ax st))(hkd:kd≠ .b)(hn:ps.length=n+1)
 (body: ∀(cdv:NG) (A:OL) (outer:List Env) (s:NH) (H:Hp) (hid:bN) (a:Addr) (E:XK),Room k (A.deeper (SW qual (ax st) s.heap.objs.size f cdv))->
   ze (rM u3 P w K mg base N qual (ax st) f cdv A outer s H E).nox ⟨H,hid,λb=>decide (b=a)⟩ kd (dw st) t):
 FnOk P w K mg base u3 (k+1) f fd ps (zk K kd n (BZ kd N.length t)):=by
 refine F.ok S (λvs H Q E h=>?_) (λcdv A outer s H vs Q E hr h=>?_)
 ·obtain⟨hid,a,xs,bs,us,ds,rfl,_,_,_,_,r,hl,_⟩:=h;rw[On,r.length,hl,hn]
 ·obtain⟨hid,a,xs,bs,us,ds,rfl,tr,ha,hx,rb,r,hl,d,bs',hM,q⟩:=h;have hN:0<N.length:=by have:=congrArg Rx S.pre;rw[Qy] at this;omega
  refine⟨_,body cdv A outer s H hid a E hr (ud N.length bs ds),hid,SR.beginsE tr ha hx rb r hN,?_⟩;have fin: ∀(v:V) (H':Hp) (ρ:aF) (d:D),Ret K ⟨H,hid,λb=>decide (b=a)⟩ kd ρ H' v d->rE ρ=some bs'->(∀v H' xs',(∀b o,H b=some o->b≠a->H' b=some o)->H' a=some (.lst xs')->KL K kd hid H H' v d xs' bs'->Q v H')->Q v H':=by
   intro v H' ρ d R h0 q;obtain⟨a',xs',m1,m2,m3⟩:=R.arg 0 _ (A3 h0);have:a'=a:=by simpa using m1
   subst this;refine q v H' xs' (λb o z n=>R.kp b o z (by simpa using n)) m2 ?_
   cases kd with
   |b=>exact absurd rfl hkd
   |s=>exact⟨R.val,m3⟩
   |n=>
    obtain⟨p,ys,es,rfl,rfl,h1,h2,h3⟩:=R.val;exact⟨p,ys,es,rfl,rfl,h1,h2,h3,m3⟩
  unfold BZ at hM;cases e:t (ud N.length bs ds) with
  |nx ρ=>
   rw[e] at hM;intro σ' H' hid' sr _;cases kd with
   |b=>exact absurd rfl hkd
   |s=>
    dsimp only at hM;cases e0:rE ρ with
    |none=>rw[e0] at hM;cases hM
    |some b=>
     rw[e0] at hM;cases hM;exact fin .non H' ρ .non (HE (k:=.s) (by decide) (sr.post (k:=.s) (Same.refl _) .non (by decide)) sr.h0) e0 q
   |n=>cases hM
  |rt d' ρ=>
   rw[e] at hM;dsimp only at hM;cases e0:rE ρ with
   |none=>rw[e0] at hM;cases hM
   |some b=>
    rw[e0] at hM;cases hM;intro v H' R;exact fin v H' ρ _ R e0 q
  |bk ρ=>rw[e] at hM;cases hM
  |ct ρ=>rw[e] at hM;cases hM
  |no=>rw[e] at hM;cases hM
end
def zr(K:NU):Sp:=λvs H Q _=> ∃(a:Addr) (ns:List Int),vs=[.ref a]/\SqR K H a (ns.map V.int)/\ns.length<=63/\ ∀H',Q (.bl true) H'
theorem sR {K:NU}{F:Hp}: ∀ns:List Int,Reps K F (ns.map V.int) (ns.map D.int)
 | []=>.nil
 |_::r=>.cons .int (sR r)
theorem Iy {P:OI}{w:OT}{K:NU}{mg:Str->Option NG}{base:Heap}{f:Addr}{fd:QC}{x:Str}{k:Nat}{M:List D->Option D}(F:FnOk P w K mg base u3 k f fd [x] (cb K .s 1 M))(hM: ∀ns:List Int,ns.length<=63->M [.scr (ns.map D.int)]=some (.bl true)):
 FnOk P w K mg base u3 k f fd [x] (zr K):=F.imp λvs H Q E hq_=>by
 obtain⟨a,ns,e,hS,hl,q⟩:=hq_;subst e;have hv:vw H (λ_=>false)=H:=by funext b;unfold vw;simp
 refine⟨λ_=>false,[.scr (ns.map D.int)],⟨(λb h=>nomatch h),(λb xs h=>nomatch h)⟩,?_,rfl,.bl true,hM ns hl,λv H' _ r=>?_⟩
 ·rw[hv];exact .cons (.scr hS (sR ns)) .nil
 ·cases r;exact q H'
theorem walkD {l:Yu}{k:Nat}{x:Str}{q:OI}{loose:List Str}{XP:(Str->Option NG)->Heap->Prop}{YP:OT->Heap->Prop}{d:DefRec}{K:Params->NU}(hn:l.most=some 63)(hdf:d.params.defaults=[])(hr:Room k Uw)
 (hY: ∀(w:OT) (h:Heap),YP w h->(K w.params).In h)
 (F: ∀(w:OT) (mg:Str->Option NG) (fa:Addr) (h:Heap),(K w.params).In h->h.Ns OR mg->mg d.name=some (.ref fa)->
   ∃fd:QC,(∀(s:NH) (u:NG),V5 s fd ⟨[u],[]⟩ [(x,u)])/\ ∀base:Heap,(K w.params).In base->base.Ns OR mg->FnOk l.prog w (K w.params) mg base u3 k fa fd [x] (zr (K w.params))):
 W.WalkO q loose XP YP l.row.toRowW d [] (λf vs=>Xr f vs):=
 L2.walk_of (n:=63) (k:=k) (x:=x) (CX:=λ_=>u3) (sp:=λw=>zr (K w.params)) hn (by decide) hdf hr hY F (λ_ H a ns hl hO hS=>⟨a,ns,rfl,hS.elim (λr=>r.elim (λe=>by rcases hO a with z|⟨o,xs,z⟩<;>rw[z] at e<;>cases e) .inl) .inr,hl,λ_=>rfl⟩) λ_ _ _ _ _ z=>z
def tZ(cells:List (Str×Addr)):List (Str×Qs)->List (Str×Addr)->List (Str×Addr)
 | [],acc=>acc
 |(n,k)::r,acc=>tZ cells r (if k== .free then(match cells.lookup n with
  |some c=>(n,c)::acc
  |none=>acc) else acc)
theorem uP {cells:List (Str×Addr)}: ∀ {names:List (Str×Qs)} {acc:List (Str×Addr)},(∀p∈acc,cells.lookup p.1=some p.2)-> ∀p∈tZ cells names acc,cells.lookup p.1=some p.2
 | [],acc,h,p,hp=>h p hp
 |(n,k)::r,acc,h,p,hp=>by
  refine uP (names:=r) ?_ p hp;intro q hq;split at hq
  ·split at hq
   ·rename_i c e
    rcases Oc.mp hq with rfl|hq
    ·exact e
    ·exact h q hq
   ·exact h q hq
  ·exact h q hq
theorem xg {cells:List (Str×Addr)}: ∀ {names:List (Str×Qs)} {acc:List (Str×Addr)} (p:Str×Addr),p∈tZ cells names acc->p∈acc\/(p.1,P3)∈names
 | [],acc,p,hp=>.inl hp
 |(n,k)::r,acc,p,hp=>by
  rcases xg (names:=r) p hp with hq|hq
  ·split at hq
   ·rename_i ek
    split at hq
    ·rcases Oc.mp hq with e|hq
     ·subst e;have:k=.free:=by simpa using ek
      subst this;exact .inr Oe
     ·exact .inl hq
    ·exact .inl hq
   ·exact .inl hq
  ·exact .inr (N3 _ hq)
theorem wQ {cells:List (Str×Addr)}: ∀ {names:List (Str×Qs)} {acc:List (Str×Addr)} {p:Str×Addr},p∈acc->p∈tZ cells names acc
 | [],acc,p,h=>h
 |(n,k)::r,acc,p,h=>by
  refine wQ (names:=r) ?_
  split
  ·split
   ·exact N3 _ h
   ·exact h
  ·exact h
theorem zf {cells:List (Str×Addr)}{x:Str}{c:Addr}(hc:cells.lookup x=some c): ∀ {names:List (Str×Qs)} {acc:List (Str×Addr)},(x,P3)∈names->(x,c)∈tZ cells names acc
 | [],_,h=>nomatch h
 |(n,k)::r,acc,h=>by
  rcases Oc.mp h with e|h
  ·cases e;refine wQ (names:=r) ?_
   rw[if_pos (by rfl),hc];exact Oe
  ·exact zf hc (names:=r) h
theorem rN {l:List (Str×Addr)}{x:Str}{c:Addr}(h:(x,c)∈l)(u: ∀p∈l,p.1=x->p.2=c):l.lookup x=some c:=by
 induction l with
 |nil=>exact nomatch h
 |cons p r ih=>
  obtain⟨n,a⟩:=p;rw[Qz];cases e:x==n with
  |true=>
   have e':x=n:=eq_of_beq e;have:=u (n,a) Oe e'.symm;simpa using this
  |false=>
   have ne:x≠n:=λe'=>by rw[e'] at e;simp at e
   rcases Oc.mp h with e'|h
   ·cases e';exact absurd rfl ne
   ·exact ih h λp hp=>u p (N3 _ hp)
theorem xB {cells:List (Str×Addr)}{names:List (Str×Qs)}{x:Str}{c:Addr}(h:(tZ cells names []).lookup x=some c):cells.lookup x=some c:=
 uP (names:=names) (acc:=[]) (λ_ z=>nomatch z) (x,c) (OV h)
theorem oV {cells:List (Str×Addr)}{names:List (Str×Qs)}{x:Str}{c:Addr}(hc:cells.lookup x=some c)(hf:(x,P3)∈names):(tZ cells names []).lookup x=some c:=
 rN (zf hc hf) λp hp e=>by
  have:=uP (names:=names) (acc:=[]) (λ_ z=>nomatch z) p hp;rw[e,hc] at this;exact(OS this).symm
theorem fc {scope:Qr}{env:Env}(h: ∀x,(x,P3)∈scope.names-> ∃c,env.cells.lookup x=some c):closureFor scope env=pure (tZ env.cells scope.names []):=by
 unfold closureFor;have key: ∀(names:List (Str×Qs)) (acc:List (Str×Addr)),(∀x,(x,P3)∈names-> ∃c,env.cells.lookup x=some c)->
  (forIn names acc (λ(p:Str×Qs) (r:List (Str×Addr))=>match p with
    |(name,kind)=>if(kind==P3)=true then do
       let __do_lift <-cellOf env name
       pure (ForInStep.yield ((name,__do_lift)::r)) else pure (ForInStep.yield r)):Sem (List (Str×Addr)))=pure (tZ env.cells names acc):=by
  intro names
  induction names with
  |nil=>intro acc _;rfl
  |cons p r ih=>
   intro acc h;obtain⟨n,k⟩:=p;rw[List.forIn_cons];have hr: ∀x,(x,P3)∈r-> ∃c,env.cells.lookup x=some c:=λx hx=>h x (N3 _ hx)
   cases e:k==P3 with
   |false=>
    simp only[e,NX,if_false,pure_bind];rw[ih acc hr]
    conv=>rhs;unfold tZ
    simp[e]
   |true=>
    have ek:k=.free:=by simpa using e
    subst ek;obtain⟨c,hc⟩:=h n Oe;have ec:cellOf env n=pure c:=by unfold cellOf;rw[hc]
    simp only[beq_self_eq_true,if_true,ec,pure_bind];rw[ih _ hr]
    conv=>rhs;unfold tZ
    simp[hc]
 have:=key scope.names [] h;simp only[this,pure_bind]
theorem iY {sc:Qr}{env:Env}{x:Str}{k:Qs}(h:(Sb sc env).names.lookup x=some k): ∃k0,sc.names.lookup x=some k0/\(k=k0\/(k0=.free/\k=.cell)):=by
 unfold Sb at h;dsimp only at h;generalize sc.names=l at h⊢
 induction l with
 |nil=>simp at h
 |cons p r ih=>
  obtain⟨n,k1⟩:=p;rw[NS] at h;dsimp only at h;rw[Qz];cases hx:x==n with
  |true=>
   refine⟨k1,rfl,?_⟩;split at h
   ·rename_i hc
    rw[Qz] at h;simp only[hx] at h;cases h;have:k1=.free:=by
     simp only[NQ] at hc;exact eq_of_beq hc.1.1
    exact .inr ⟨this,rfl⟩
   ·rw[Qz] at h;simp only[hx] at h;cases h;exact .inl rfl
  |false=>
   split at h
   ·rw[Qz] at h;simp only[hx] at h;exact ih h
   ·rw[Qz] at h;simp only[hx] at h;exact ih h
def oe(cells:List (Str×Addr))(scope:Qr)(C:Addr):List (Str×Addr):=Qa (C+1) scope.names (tZ cells scope.names [])
theorem bL: ∀(names:List (Str×Qs)) (n:Nat) (acc:List (Str×Addr)),Qa n names acc=Qa n names []++acc
 | [],_,_=>rfl
 |(name,kind)::r,n,acc=>by
  unfold Qa;split
  ·rw[bL r (n+1) ((name,n)::acc),bL r (n+1) [(name,n)],Pj];rfl
  ·exact bL r n acc
theorem t8: ∀ {names:List (Str×Qs)} {n:Nat} {p:Str×Addr},p∈Qa n names []->(p.1,Rk)∈names
 | [],_,_,h=>nomatch h
 |(name,kind)::r,n,p,h=>by
  unfold Qa at h;split at h
  ·rename_i hk
   have hk':kind=.cell:=by simpa using hk
   subst hk';rw[bL] at h;rcases Pt.mp h with h|h
   ·exact N3 _ (t8 h)
   ·rw[Om.mp h];exact Oe
  ·exact N3 _ (t8 h)
theorem oB: ∀ {names:List (Str×Qs)} {n:Nat} {x:Str},(x,Rk)∈names-> ∃c,(x,c)∈Qa n names []
 | [],_,_,h=>nomatch h
 |(name,kind)::r,n,x,h=>by
  unfold Qa;rcases Oc.mp h with e|h
  ·cases e;rw[if_pos (by rfl),bL];exact⟨n,Op _ Oe⟩
  ·split
   ·obtain⟨c,hc⟩:=oB (n:=n+1) h;rw[bL];exact⟨c,PZ _ hc⟩
   ·exact oB h
theorem yn {l:List (Str×Addr)}{x:Str}{c:Addr}(h:(x,c)∈l): ∃c',l.lookup x=some c':=by
 induction l with
 |nil=>exact nomatch h
 |cons p r ih=>
  obtain⟨n,a⟩:=p;rw[Qz];cases e:x==n with
  |true=>exact⟨a,rfl⟩
  |false=>
   rcases Oc.mp h with e'|h
   ·cases e';simp at e
   ·exact ih h
theorem fC {cells:List (Str×Addr)}{sc:Qr}{C:Addr}{x:Str}{c:Addr}(h:(oe cells sc C).lookup x=some c):(x,c)∈Qa (C+1) sc.names []\/(tZ cells sc.names []).lookup x=some c:=by
 unfold oe at h;rw[bL,To] at h;cases e:(Qa (C+1) sc.names []).lookup x with
 |none=>rw[e] at h;exact .inr h
 |some c'=>rw[e] at h;cases h;exact .inl (OV e)
theorem C2 {cells:List (Str×Addr)}{sc:Qr}{C:Addr}{x:Str}(h:(x,Rk)∈sc.names): ∃c,(oe cells sc C).lookup x=some c:=by
 obtain⟨c,hc⟩:=oB (n:=C+1) h;obtain⟨c',e⟩:=yn hc;exact⟨c',by unfold oe;rw[bL,To,e];rfl⟩
theorem xa {cells:List (Str×Addr)}{sc:Qr}{C:Addr}{x:Str}(h:(x,Rk)∉sc.names):(oe cells sc C).lookup x=(tZ cells sc.names []).lookup x:=by
 unfold oe;rw[bL,To];cases e:(Qa (C+1) sc.names []).lookup x with
 |none=>rfl
 |some c'=>exact absurd (t8 (OV e)) h
theorem ua {M:ZZ}{A:OL}{E:NG->NH->Prop}{s:NH}{scope:Qr}{globals:Addr}{closure:List (Str×Addr)}{qual:Str}{outer:Env}{Q:Env->NH->Prop}
 (hQ: ∀h',h'.Ns s.heap.objs.size (λ_=>none)->(∀b o,s.heap.get? b=some o->h'.get? b=some o)->CellsOk h' (s.heap.objs.size+1) (Qa (s.heap.objs.size+1) scope.names [])->
   Q (newEnv scope s.heap.objs.size globals (Qa (s.heap.objs.size+1) scope.names closure) qual none .none (some outer) VU) {s with heap:=h',toks:=s.toks}):
 N1 M A (Sc scope globals closure [] qual none .none (some outer)) Q E s:=by
 simp only[Sc,Option.isSome_some,if_true];refine NE (wpAny_alloc ?_);refine NE (wpAny_layCells _ (λname kind cells=>by cases hkc:kind==Rk<;>simp[hkc]) _ _ _ _ ?_);have ok:=cellsFrom_ok scope.names (s.heap.push {cls:=.type "dict",data:=.dict #[]}) (s.heap.objs.size+1) [] ⟨λ_ _ hm=>(nomatch hm),Qo⟩ (by rw[P8];exact NT _);rw[P8] at ok;rw[show({s with heap:=s.heap.push {cls:=.type "dict",data:=.dict #[]}}:NH).heap.objs.size=s.heap.objs.size+1 from P8 ..];rw[List.forIn_nil];refine NE (NJ (NJ ?_));exact hQ _ ((Heap.Ns.new s.heap (.type "dict")).keeps (WX _ _)) (λb o e=>WX _ _ b o (NM _ e)) ok
def aE(X:Cx)(N':List Str)(scope:Qr)(C:Addr)(s₀:NH)(H₀:Hp)(ex:List Addr):Cx where
 prog:=X.prog
 w:=X.w
 K:=X.K
 mg:=X.mg
 base:=X.base
 A:=X.A
 N:=N'
 s₀:=s₀
 H₀:=H₀
 env:=Ue scope (oe X.env.cells scope C) C X.env
 outer:=X.stack
 stack:=X.stack
 ex:=ex
 fn:=λx=>scope.names.lookup x==some .local||scope.names.lookup x==some .cell
 calm:=X.calm
 pn:=[]
 xe:=λ_ _=>False
def xE(N N':List Str)(sc:Qr):Bool:=
 decide (N.length<=N'.length)&&((N'.take N.length).zip N).all (λp=>(p.1==p.2&& !(sc.names.lookup p.1==some .local)&& !(sc.names.lookup p.1==some .cell))||(sc.names.lookup p.1).isNone)&&
  (N'.drop N.length).all λx=>sc.names.lookup x==some .local||sc.names.lookup x==some .cell
def xn(sc:Qr)(outer:Qr):Bool:=
 sc.names.all λy=>(y.2 != .cell||sc.names.lookup y.1==some .cell)&&(y.2 != .local||sc.names.lookup y.1==some .local)&&(y.2 != .free||(sc.names.lookup y.1==some .free&&(outer.names.lookup y.1==some .cell||outer.names.lookup y.1==some .free)))
theorem wG {sc o:Qr}(h:xn sc o=true): ∀y∈sc.names,y.2=.cell->sc.names.lookup y.1=some .cell:=λy hy e=>by
 have:=NW.mp h y hy;simpa [e] using this
theorem kQ {sc o:Qr}(h:xn sc o=true): ∀y∈sc.names,y.2=.local->sc.names.lookup y.1=some .local:=λy hy e=>by
 have:=NW.mp h y hy;simpa [e] using this
theorem iD {sc o:Qr}(h:xn sc o=true): ∀x,(x,P3)∈sc.names->o.names.lookup x=some .cell\/o.names.lookup x=some .free:=λx hx=>by
 have:=NW.mp h _ hx;simpa using (by simpa using this:_/\_).2
theorem sO {sc o:Qr}(h:xn sc o=true): ∀x,(x,P3)∈sc.names->sc.names.lookup x=some .free:=λx hx=>by
 have:=NW.mp h _ hx;simpa using (by simpa using this:_/\_).1
theorem A7 {N N':List Str}{sc:Qr}(h:xE N N' sc=true){i:Nat}{x:Str}(hi:i<N.length)(e:N'[i]? =some x)(hv: ∃k,sc.names.lookup x=some k/\(k=.local\/k=.cell\/k=.free)):N[i]? =some x/\sc.names.lookup x=some .free:=by
 unfold xE at h;simp only[NQ,decide_eq_true_eq] at h;obtain⟨⟨h1,h2⟩,_⟩:=h;have hN:N[i]? =some N[i]:=NL hi;have e1:(N'.take N.length)[i]? =some x:=by rw[T4 hi];exact e
 have hm:(x,N[i])∈(N'.take N.length).zip N:=by
  refine OF (i:=i) ?_
  rw[Qd];exact⟨e1,hN⟩
 have:=NW.mp h2 _ hm;obtain⟨k,hk,hk2⟩:=hv;dsimp only at this;rw[hk] at this;simp only[Option.isNone_some,VI,NQ,O0] at this;obtain⟨⟨t1,t2⟩,t3⟩:=this;have ex:x=N[i]:=eq_of_beq t1;rcases hk2 with rfl|rfl|rfl
 ·simp at t2
 ·simp at t3
 ·exact⟨by rw[hN,<-ex],hk⟩
theorem GV {N N':List Str}{sc:Qr}(h:xE N N' sc=true):N.length<=N'.length:=by
 unfold xE at h;simp only[NQ,decide_eq_true_eq] at h;exact h.1.1
section
variable {X:Cx}{ah:List (Addr×Obj)}{σ:St}{H:Hp}{s:NH}{scope:Qr}{N':List Str}{fp:List Addr}
theorem Bw(I:Inv X ah σ H s){b:Addr}(f:jB X ah H b):b∉frs X.stack:=λz=>by
 rcases Oc.mp (I.stkSub b z) with e|z
 ·exact f.2.1 e
 ·exact f.2.2.1 z
theorem qb {h':Heap}{tk:Nat}(I:Inv X ah σ H s)(hF: ∀b∈fp,jB X ah H b)(hO: ∀b∈fp,∃o,s.heap.get? b=some o)(hk:scope.kind=.function)(hs:xn scope X.env.scope=true)(hn:xE X.N N' scope=true)
 (ns:h'.Ns s.heap.objs.size λ_=>none) (kp: ∀b o,s.heap.get? b=some o->h'.get? b=some o) (oc:CellsOk h' (s.heap.objs.size+1) (Qa (s.heap.objs.size+1) scope.names [])):
 Inv (aE X N' scope s.heap.objs.size s H fp) [] (σ++NR (N'.length-X.N.length) none) H {s with heap:=h',toks:=tk}:=by
 have hlen:=GV hn;have cl: ∀x c,(tZ X.env.cells scope.names []).lookup x=some c->X.env.cells.lookup x=some c:=λx c e=>xB e
 have clt: ∀x c,(tZ X.env.cells scope.names []).lookup x=some c->c<s.heap.objs.size:=λx c e=>let⟨_,z⟩:=I.cell x c (cl x c e);z.lt
 have newC:H s.heap.objs.size=none:=I.hok.fresh (NT _)
 refine⟨⟨I.ok.mod,hk,I.ok.glob,I.ok.blt,NT _,λx y c h1 h2=>?_,λx hx=>?_,λx c h1 h2=>?_,I.ok.hd,I.ok.frames,.inl rfl,λb hb=>⟨?_,λx c e=>?_⟩,I.bs,OE I.ok.bsz I.sz,λb o e hb=>?_,λb hb=>Bw I (hF b hb),I.stack,I.stkFree⟩,
  rfl,I.bare,Un.kept kp,⟨_,ns,λi x v e1 e2 e3=>?_⟩,λx c e=>?_,newC,λx c e=>?_,λp hp=>absurd (show p∈([]:List (Addr×Obj)) from hp) (by simp),I.hok.kept kp,?_⟩
 ·
  rcases fC h1 with h1|h1<;>rcases fC h2 with h2|h2
  ·exact name_of_addr oc.apart h1 h2
  ·exact absurd (clt y c h2) (Ry.mpr (Rv (oc.empty _ _ h1).2))
  ·exact absurd (clt x c h1) (Ry.mpr (Rv (oc.empty _ _ h2).2))
  ·exact I.ok.inj x y c (cl x c h1) (cl y c h2)
 ·
  have hx':(Sb scope X.env).names.lookup x=some .cell\/(Sb scope X.env).names.lookup x=some .free:=hx;have:(x,Rk)∈scope.names\/(x,P3)∈scope.names:=by
   rcases hx' with hx'|hx'
   ·obtain⟨k0,e0,e1|⟨e1,_⟩⟩:=iY hx'
    ·subst e1;exact .inl (OV e0)
    ·subst e1;exact .inr (OV e0)
   ·obtain⟨k0,e0,e1|⟨_,e1⟩⟩:=iY hx'
    ·subst e1;exact .inr (OV e0)
    ·cases e1
  rcases this with this|this
  ·exact C2 this
  ·have hc:=iD hs x this;obtain⟨c,e⟩:=I.ok.has x hc;exact⟨c,(xa λz=>by have z1:=wG hs _ z rfl;have z2:=sO hs x this;rw[z2] at z1;cases z1).trans (oV e this)⟩
 ·
  have h1':scope.names.lookup x=some .local\/scope.names.lookup x=some .cell:=by
   have h1:(scope.names.lookup x==some .local||scope.names.lookup x==some .cell)=true:=h1;simpa using h1
  rcases fC h2 with h2|h2
  ·exact Rv (oc.empty _ _ h2).2
  ·exfalso;rcases xg _ (OV h2) with z|z
   ·exact nomatch z
   ·rw[sO hs x z] at h1';rcases h1' with h1'|h1'<;>cases h1'
 ·obtain⟨o,e⟩:=hO b hb;exact Oz (N0 e)
 ·rcases fC e with e|e
  ·obtain⟨o,e'⟩:=hO b hb;exact λz=>absurd (N0 e') (Ry.mpr (z▸Rv (oc.empty _ _ e).2))
  ·exact(hF b hb).2.2.2.2.1 x c (cl x c e)
 ·obtain⟨_,_,_,h4,_⟩:=hF b hb;rcases h4 with h4|h4
  ·exact I.ok.noex b o e h4
  ·exact absurd (NV (N0 e) (OE I.ok.bsz h4)) (QV _)
 ·have hi:i<X.N.length:=by
   by_cases hi:i<σ.length
   ·rw[<-I.len];exact hi
   ·rw[Ox (by omega),OZ] at e2;split at e2<;>cases e2
  rw[OA (by rw[I.len];exact hi)] at e2;have e3':(Sb scope X.env).names.lookup x=some .local\/(Sb scope X.env).names.lookup x=some .cell\/(Sb scope X.env).names.lookup x=some .free:=e3;have hv: ∃k,scope.names.lookup x=some k/\(k=.local\/k=.cell\/k=.free):=by
   rcases e3' with z|z|z
   all_goals
    obtain⟨k0,q0,q1|⟨q1,q2⟩⟩:=iY z
    ·subst q1;exact⟨_,q0,by simp⟩
    ·subst q1;exact⟨_,q0,by simp⟩
  obtain⟨hN,hf⟩:=A7 hn hi e1 hv;have hfm:=OV hf;have hc:=iD hs x hfm;have nc:(x,Rk)∉scope.names:=λz=>by have z1:=wG hs _ z rfl;rw[hf] at z1;cases z1
  obtain⟨m,hm,hl⟩:=I.loc;obtain⟨u,r,l⟩:=hl i x v hN e2 (.inr hc);refine⟨u,r,.inr ⟨?_,?_⟩⟩
  ·show(Sb scope X.env).names.lookup x=some .cell\/(Sb scope X.env).names.lookup x=some .free;rcases e3' with z|z|z
   ·obtain⟨k0,q0,q1|⟨q1,q2⟩⟩:=iY z
    ·subst q1;rw[hf] at q0;cases q0
    ·cases q2
   ·exact .inl z
   ·exact .inr z
  ·rcases l with⟨l,_⟩|⟨_,c,ec,z⟩
   ·have l':X.env.scope.names.lookup x=some .local:=l;rcases hc with hc|hc<;>rw[hc] at l'<;>cases l'
   ·exact⟨c,(xa nc).trans (oV ec hfm),z.keeps kp⟩
 ·rcases fC e with e|e
  ·exact⟨_,(oc.empty _ _ e).1⟩
  ·obtain⟨v,z⟩:=I.cell x c (cl x c e);exact⟨v,z.keeps kp⟩
 ·rcases fC e with e|e
  ·exact I.hok.fresh (Rv (oc.empty _ _ e).2)
  ·exact I.freeC x c (cl x c e)
 ·show(σ++_).length=N'.length;rw[Of,Ss,I.len];omega
end
def Mk(K:NU)(c:Ct)(hid:bN)(f:FA)(ρ:aF):TI:=λσ H R=>SR K c hid ρ σ H/\ ∃ds,f ρ=some ds/\ ∀J H',Same H H'->ItOk K (vw H' hid) J ds->R J H'
def DIp(X:Cx)(c:Ct)(tg iter:Expr)(f:FA):Prop:= ∀hid ρ,PI X tg iter (Mk X.K c hid f ρ)
def K8 {ι:Type}(IR:Hp->V->ι->Prop)(L W:Hp)(J:It)(ds:List ι):Prop:=
 (∀(i:Nat) (d:ι) (H:Hp),ds[i]? =some d->Same L H->Same W H->J.go i H/\ ∀x H',J.yld i H x H'->Same H H'/\ ∀hid:bN,(∀b,hid b=true-> ∃o,H b=some o)->Same W (vw H hid)->IR (vw H' hid) x d)/\ ∀H,Same L H->Same W H->J.stop ds.length H
abbrev Ld(K:NU)(L W:Hp)(J:It)(ds:List D):Prop:=K8 (Rep K) L W J ds
theorem ItOk.b {K:NU}{L W:Hp}{J:It}{ds:List D}(h:ItOk K W J ds):Ld K L W J ds:=⟨λi d H e _ w=>h.1 i d H e w,λH _ w=>h.2 H w⟩
def M4 {ι:Type}(IR:Hp->V->ι->Prop)(K:NU)(c:Ct)(hid:bN)(f:aF->Option (List ι))(ρ:aF):TI:=λσ H R=>SR K c hid ρ σ H/\ ∃ds,f ρ=some ds/\ ∀J H',Same H H'->K8 IR H' (vw H' hid) J ds->R J H'
def M8 {ι:Type}(IR:Hp->V->ι->Prop)(X:Cx)(c:Ct)(tg iter:Expr)(f:aF->Option (List ι)):Prop:= ∀hid ρ,PI X tg iter (M4 IR X.K c hid f ρ)
abbrev LU(X:Cx)(c:Ct)(tg iter:Expr)(f:FA):Prop:=M8 (Rep X.K) X c tg iter f
section
variable {X:Cx}{c:Ct}{k:Kd}{tg iter:Expr}{pos:Pos}
theorem DIp.b {f:FA}(h:DIp X c tg iter f):LU X c tg iter f:=λhid ρ=>PI.imp (h hid ρ) λσ H R ⟨sr,ds,e,q⟩=>⟨sr,ds,e,λJ H' s io=>q J H' s io.b⟩
theorem DIp.e {f:FA}(h:DIp X c tg iter f):DI X c tg iter (cN f):=λhid ρ=>PI.imp (h hid ρ) λσ H R hq_=>by
 obtain⟨sr,ds,ρ',e,q⟩:=hq_;obtain⟨e1,rfl⟩:=wc e;exact⟨sr,ds,e1,λJ H' s io=>q J H' (.of s) (sr.ext s) io⟩
def gK(f:FE):FA:=λρ=>(f ρ).bind λd=>match d with
 | .lst ds=>some ds
 |_=>none
def wj(f:FE):FA:=λρ=>(f ρ).bind λd=>match d with
 | .tup ds=>some ds
 |_=>none
theorem Bn {f:FE}{ρ:aF}{ds:List D}(h:gK f ρ=some ds):f ρ=some (.lst ds):=by
 unfold gK at h;cases e:f ρ with
 |none=>rw[e] at h;cases h
 |some d=>
  rw[e] at h;cases d with
  |lst z=>cases h;rfl
  |_=>cases h
theorem Bm {f:FE}{ρ:aF}{ds:List D}(h:wj f ρ=some ds):f ρ=some (.tup ds):=by
 unfold wj at h;cases e:f ρ with
 |none=>rw[e] at h;cases h
 |some d=>
  rw[e] at h;cases d with
  |tup z=>cases h;rfl
  |_=>cases h
theorem D5 {K:NU}{W:Hp}{a:Addr}{xs:List V}{ds:List D}(h1:SqL K W a xs)(h2:Reps K W xs ds):ItOk K W (Mt K a) ds:=by
 refine⟨λi d H e s=>?_,λH s=>⟨_,s.seq h1,by rw[h2.length];exact NT _⟩⟩;obtain⟨x,e1,r1⟩:=h2.get e;refine⟨⟨_,x,s.seq h1,e1⟩,λy H' ⟨e2,e3⟩=>?_⟩;subst e2;have:=e3 _ (s.seq h1);rw[e1] at this;cases this;exact⟨Same.refl _,λhid _ sw=>r1.mono sw⟩
theorem eW {f:FE}(h:DP X c .s iter f):DIp X c tg iter (gK f):=λhid ρ=>PI.imp (zc (h hid ρ)) λσ H R hq_=>by
 obtain⟨sr,ds,e,q⟩:=hq_;refine⟨sr,_,Bn e,λv H' s' r=>?_⟩;cases r with
 |lst h1 h2=>have h1:=SqL.of (K:=X.K) h1;exact⟨_,rfl,⟨_,(di _ _).seq h1⟩,q _ H' s' (D5 h1 h2)⟩
theorem AL {f:FE}(h:DP X c .s iter f):DIp X c tg iter (wj f):=λhid ρ=>PI.imp (JE (h hid ρ)) λσ H R hq_=>by
 obtain⟨sr,ds,e,q⟩:=hq_;refine⟨sr,_,Bm e,λv H' s' r=>?_⟩;cases r with
 |tup h1 h2=>exact⟨_,rfl,⟨_,Same.seqT (di _ _) h1⟩,q _ H' s' (Ey h1 h2)⟩
def eD(f:FA):FA:=λρ=>(f ρ).bind λds=>match ds with
 | [.int j]=>if j.natAbs<4000000000 then some (BC 0 j.toNat) else none
 |_=>none
theorem c8 {a:Expr}{f:FA}{p:Pos}(hm:X.mg "range"=none)(ha:DA X c [a] f)(hg:Gl X "range":=by rfl)(hs:N8 [a] X.env=[(false,eval a X.env)]:=by rfl):DIp X c tg (.Call (.Name "range" p) [a] [] pos) (eD f):=λhid ρ=>
 PI.imp (BS hg hm (ha hid ρ) hs) λσ H R hq_=>by
  obtain⟨sr,ds,e,q⟩:=hq_;unfold eD at e;cases e1:f ρ with
  |none=>rw[e1] at e;cases e
  |some z=>
   rw[e1] at e;dsimp only[Rz] at e;split at e
   ·split at e
    ·cases e;refine⟨sr,_,e1,λvs H' s' r=>?_⟩;cases r with
     |cons r t=>cases t;cases r;exact⟨_,rfl,by omega,by omega,q _ H' s' xR⟩
    ·cases e
   ·cases e
def mI(ifs:List Expr)(env:Env):Sem Bool:=forIn ifs true λc r=>if r=true then do let ok <-isTrue c env (eval c env);pure (ForInStep.yield ok) else pure (ForInStep.yield r)
def u2(X:Cx)(c:Ct)(ifs:List Expr)(p:FT):Prop:= ∀hid ρ (ah:List (Addr×Obj)) (s:NH) (σ:St) (H:Hp) (Q:Bool->Hp->Prop),Inv X ah σ H s->MD X.K c hid p ρ σ H Q->N1 (model X.prog X.w) X.A (mI ifs X.env) (TP X ah σ Q) X.xe s
def bT:FT:=λ_=>some true
theorem bS:u2 X c [] bT:=λhid ρ ah s σ H Q I hq_=>by
 obtain⟨sr,d,e,q⟩:=hq_;cases e;exact wpAny_tests_nil ⟨H,I,q H (Same.refl _)⟩
theorem jy {e:Expr}{p:FT}(h:DT X c e p):u2 X c [e] p:=λhid ρ ah s σ H Q I q=>wpAny_tests_one (h hid ρ ah s σ H Q I q)
end
theorem eV {prog:OI}{w:OT}{A:OL}{R:T3->NH->Prop}{s:NH}{elt target iter:Expr}{ifs:List Expr}{scope:Qr}{pos:Pos}{it acc:NG}{env:Env}(I:Nat->NH->Prop)
 (turn: ∀n s,I n s->N1 (model prog w) A (R8 it) (λr s₁=>match r with
   |none=>R (.ok .next) s₁
   |some v=>N1 (model prog w) A (QM target it v) (λ_ s₁=>N1 (model prog w) A (Q2 target env v) (λ_ s₂=>
     N1 (model prog w) A (mI ifs env) (λok s₃=>
      if ok=true then N1 (model prog w) A (eval elt env) (λx s₄=>
       N1 (model prog w) A (call (.builtin "list.append") [acc,x]) (λ_ s₅=> ∃m,m<n/\I m s₅) (λ_ _=>False) s₄) (λ_ _=>False) s₃
      else∃m,m<n/\I m s₃) (λ_ _=>False) s₂) (λ_ _=>False) s₁) (λ_ _=>False) s₁) (λ_ _=>False) s)
 (n:Nat) (h:I n s):
 Qp (model prog w) A (.compLoop (.ListComp elt [⟨target,iter,ifs,0⟩] scope pos) 0 it acc env) R s:=by
 have no: ∀ {E':NG->NH->Prop} (x:NG) (s:NH),False->E' x s:=λ_ _ z=>z.elim
 refine V9 rfl I (λn s hI=>?_) n h;show N1 _ A ((Wa (.ListComp elt [⟨target,iter,ifs,0⟩] scope pos) 0 it acc env).onRaise (λx=>do WD x env;UK x)) _ _ s;refine WO ?_
 rw[compTurn_list];refine NE (Qi (NE (OM (turn n s hI) (λr s₁ h₁=>?_) no)));cases r with
 |none=>exact NJ h₁
 |some v=>
  refine NE (OM h₁ (λ_ s₁ h₁=>?_) no);refine NE (OM h₁ (λ_ s₂ h₂=>NE (OM h₂ (λok s₃ h₃=>?_) no)) no);cases ok with
  |false=>exact NJ ⟨rfl,h₃⟩
  |true=>
   exact NE (NE (OM h₃ (λx s₄ h₄=>NE (OM h₄ (λ_ s₅ h₅=>NJ (NJ ⟨rfl,h₅⟩)) no)) no))
def dm {ι:Type}(g:ι->aF->Option aF)(p:FT)(f:FE)(ρ0:aF):List ι->Option (List D)
 | []=>some []
 |d::r=>(g d ρ0).bind λρ1=>(p ρ1).bind λb=>if b=true then(f ρ1).bind λy=>(dm g p f ρ0 r).map (y:: ·) else dm g p f ρ0 r
def bM {ι:Type}(m:Nat)(gi:aF->Option (List ι))(g:ι->aF->Option aF)(p:FT)(f:FE):FE:=λρ=>(gi ρ).bind λds=>if ds.length<=Oi then(dm g p f (ρ++NR m .no) ds).map D.lst else none
theorem qd {ι:Type}{m:Nat}{gi:aF->Option (List ι)}{g:ι->aF->Option aF}{p:FT}{f:FE}{ρ:aF}{d:D}(h:bM m gi g p f ρ=some d): ∃ds ys,gi ρ=some ds/\ds.length<=Oi/\dm g p f (ρ++NR m .no) ds=some ys/\d=.lst ys:=by
 unfold bM at h;cases e1:gi ρ with
 |none=>rw[e1] at h;cases h
 |some ds=>
  rw[e1] at h;dsimp only[Rz] at h;split at h
  ·cases e2:dm g p f (ρ++NR m .no) ds with
   |none=>rw[e2] at h;cases h
   |some ys=>rw[e2] at h;cases h;exact⟨ds,ys,rfl, ‹_›,e2,rfl⟩
  ·cases h
def jv {ι:Type}(n:Nat)(g:ι->aF->Option aF):Prop:= ∀d (ρ0 ρ1:aF),g d ρ0=some ρ1->ρ1.length=ρ0.length/\ ∀i:Nat,i<n->ρ1[i]? =ρ0[i]?
def Az(n:Nat)(g:si):Prop:= ∀d (ρ0 ρ1:aF),g d ρ0=some ρ1->ρ1.length=ρ0.length/\ ∀i:Nat,i<n->ρ1[i]? =ρ0[i]?
theorem bz {n i:Nat}(h:n<=i):jv n (gN i):=λd ρ0 ρ1 e=>by
 cases e;exact⟨by simp,λj hj=>N7 (by omega)⟩
theorem iF {n:Nat}:Az n gU:=λd ρ0 ρ1 e=>by
 unfold gU at e;split at e
 ·cases e;exact⟨rfl,λ_ _=>rfl⟩
 ·cases e
theorem b6 {n:Nat}{g:FG}{gs:si}(h1:jv n g)(h2:Az n gs):Az n (cQ g gs):=λd ρ0 ρ1 e=>by
 cases d with
 |nil=>cases e
 |cons d ds=>
  have e:(g d ρ0).bind (λρ'=>gs ds ρ')=some ρ1:=e;cases e1:g d ρ0 with
  |none=>rw[e1] at e;cases e
  |some ρ2=>
   rw[e1] at e;obtain⟨a1,a2⟩:=h1 d ρ0 ρ2 e1;obtain⟨b1,b2⟩:=h2 ds ρ2 ρ1 e;exact⟨b1.trans a1,λi hi=>(b2 i hi).trans (a2 i hi)⟩
theorem qf {n m:Nat}{gs:si}(h:Az n gs):jv n (gT m gs):=λd ρ0 ρ1 e=>by
 unfold gT at e;split at e
 ·split at e
  ·exact h _ _ _ e
  ·cases e
 ·cases e
theorem SR.forget {K:NU}{c:Ct}{hid:bN}{ρ0 ρ1:aF}{σ:St}{H:Hp}(h:SR K c hid ρ1 σ H)(hl:ρ1.length=ρ0.length)(hs: ∀(i:Nat) (s:Sl),ρ0[i]? =some s->s=.no\/ρ1[i]? =some s):SR K c hid ρ0 σ H:=by
 have ow: ∀i:Nat,Ow ρ0[i]? ->Ow ρ1[i]? :=λi o=>by
  cases e:ρ0[i]? with
  |none=>rw[e] at o;exact o.elim
  |some s=>
   rcases hs i s e with rfl|z
   ·rw[e] at o;exact o.elim
   ·rw[z,<-e];exact o
 refine⟨h.tr,h.ht,h.h0,h.kp,h.t0,h.c0,h.m0,h.len.trans hl,λi s e=>?_,λi j a n o1 o2=>h.ap i j a n (ow i o1) (ow j o2)⟩;rcases hs i s e with rfl|z
 ·trivial
 ·exact h.sl i s z
theorem SR.more {K:NU}{c:Ct}{hid:bN}{ρ:aF}{σ:St}{H:Hp}(h:SR K c hid ρ σ H)(m:Nat):SR K c hid (ρ++NR m .no) (σ++NR m none) H:=by
 have lt: ∀ {i:Nat},Ow (ρ++NR m Sl.no)[i]? ->i<ρ.length:=λ{i} o=>by
  by_cases hi:i<ρ.length
  ·exact hi
  ·rw[Ox (by omega),OZ] at o;split at o<;>exact o.elim
 refine⟨h.tr,h.ht,h.h0,h.kp,h.t0,h.c0,h.m0,by simp[h.len],λi s e=>?_,λi j a n o1 o2 q1 q2=>?_⟩
 ·by_cases hi:i<ρ.length
  ·rw[OA hi] at e;have z:=h.sl i s e;have es:(σ++NR m none)[i]? =σ[i]? :=OA (by rw[h.len];exact hi);cases s with
   |no=>trivial
   |v d=>obtain⟨x,h1,h2⟩:=z;exact⟨x,es.trans h1,h2⟩
   |own ds=>obtain⟨a,xs,h1,h2⟩:=z;exact⟨a,xs,es.trans h1,h2⟩
   |arg ds=>obtain⟨a,xs,h1,h2⟩:=z;exact⟨a,xs,es.trans h1,h2⟩
   |ob b=>obtain⟨a,h1,h2⟩:=z;exact⟨a,es.trans h1,h2⟩
  ·rw[Ox (by omega),OZ] at e;split at e
   ·cases e;trivial
   ·cases e
 ·have l1:=lt o1;have l2:=lt o2;rw[OA l1] at o1;rw[OA l2] at o2;rw[OA (by rw[h.len];exact l1)] at q1;rw[OA (by rw[h.len];exact l2)] at q2;exact h.ap i j a n o1 o2 q1 q2
section
variable {X:Cx}{c:Ct}{elt tg iter:Expr}{ifs:List Expr}{scope:Qr}{pos:Pos}{N':List Str}{m:Nat}{ι:Type}{IR:Hp->V->ι->Prop}{gi:aF->Option (List ι)}{g:ι->aF->Option aF}{p:FT}{f:FE}
theorem SR.write {K:NU}{hid:bN}{ρ:aF}{σ:St}{H:Hp}{a:Addr}{o':HO}(h:SR K c hid ρ σ H)(hh:hid a=true)(h0:c.H₀ a=none)(na: ∀i:Nat,Ow ρ[i]? ->σ[i]? ≠some (some (.ref a))){o:HO}(ha:H a=some o)(hm: ∀p u,o≠ .nst p u:=by intro _ _ e;cases e)(hn: ∀xs,o'≠ .tup xs:=by intro _ e;cases e):SR K c hid ρ σ (cm H a o'):=by
 have tr': ∀b o,H b=some o-> ∃o2,(cm H a o') b=some o2:=λb o q=>by
  by_cases e:b=a
  ·subst e;exact⟨_,ba⟩
  ·exact⟨o,by rw[aR e];exact q⟩
 refine⟨λb hb=>let⟨o,q⟩:=h.tr b hb;tr' b o q,λb xs hb q=>by
  by_cases e:b=a
  ·subst e;rw[ba] at q;exact hn _ (OS q)
  ·rw[aR e] at q;exact h.ht b xs hb q,h.h0,λb o q m=>?_,λb o q=>let⟨o2,q2⟩:=h.t0 b o q;tr' b o2 q2,h.c0,h.m0,h.len,λi s e=>?_,h.ap⟩
 ·rw[aR (bG q h0)];exact h.kp b o q m
 ·have z:=h.sl i s e;have ne: ∀a',Ow ρ[i]? ->σ[i]? =some (some (.ref a'))->a'≠a:=λa' o q w=>by subst w;exact na i o q
  cases s with
  |no=>trivial
  |v d=>obtain⟨x,h1,h2⟩:=z;exact⟨x,h1,by rw[fX hh];exact h2⟩
  |own ds=>obtain⟨a',xs,h1,h2,h3,h4,h5⟩:=z;exact⟨a',xs,h1,by rw[aR (ne a' (by rw[e];trivial) h1)];exact h2,h3,h4,by rw[fX hh];exact h5⟩
  |arg ds=>obtain⟨a',xs,h1,h2,h3,h4,h5⟩:=z;exact⟨a',xs,h1,by rw[aR (ne a' (by rw[e];trivial) h1)];exact h2,h3,h4,by rw[fX hh];exact h5⟩
  |ob b=>obtain⟨a',h1,h2⟩:=z;exact⟨a',h1,h2.mono (λow x hx o q=>by rw[aR (hx.ne (ne a' (by rw[e];exact ow) h1) ha hm)];exact q) (by rw[fX hh];exact Same.refl _) λ_ _ _ q=>q⟩
structure CLI(Y:Cx)(K:NU)(c:Ct)(hid:bN)(ρ0:aF)(H W:Hp)(D0:Addr)(fp:List Addr)(tn:Nat->Heap->Prop){ι:Type}(g:ι->aF->Option aF)(p:FT)(f:FE)(ds:List ι)(ys:List D)(n i:Nat)(xs:List V)(ad:List D)(σ':St)(H':Hp)(s':NH):Prop where
 e:n=ds.length-i
 hi:i<=ds.length
 I:Inv Y [] σ' H' s'
 st:tn i s'.heap
 fr: ∀b∈fp,H' b=none
 sr:SR K c hid ρ0 σ' H'
 sm:Same H H'
 ac:H' D0=some (.lst xs)
 rp:Reps K (vw H' hid) xs ad
 w:Same W (vw H' hid)
 hl:xs.length<=i
 na: ∀i:Nat,Ow ρ0[i]? ->σ'[i]? ≠some (some (.ref D0))
 go: ∃rest,dm g p f ρ0 (ds.drop i)=some rest/\ad++rest=ys
theorem BI(hcalm:X.calm=true)(hT:jv X.N.length g)
 (hg: ∀C s₀ H₀ ex,L4 IR (aE X N' scope C s₀ H₀ ex) c tg g) (hp: ∀C s₀ H₀ ex,u2 (aE X N' scope C s₀ H₀ ex) c ifs p) (he: ∀C s₀ H₀ ex,DP (aE X N' scope C s₀ H₀ ex) c .s elt f)
 {σ3:St} {H H3:Hp} {s3 s4:NH} {hid:bN} {ρ:aF} {J:It} {it D0 C:Addr} {fp:List Addr} {tn:Nat->Heap->Prop} {ds:List ι} {ys:List D} {R:T3->NH->Prop} {W:Hp} (hρ:ρ.length=X.N.length)
 (I:Inv (aE X N' scope C s3 H3 fp) [] σ3 H3 s4) (sr:SR X.K c hid (ρ++NR m .no) σ3 H3) (hh:hid D0=true) (h00:c.H₀ D0=none) (na: ∀i:Nat,Ow (ρ++NR m Sl.no)[i]? ->σ3[i]? ≠some (some (.ref D0))) (hacc:H3 D0=some (.lst [])) (sm:Same H H3) (nD:H D0=none) (wv:Same W (vw H3 hid)) (T:Turn X.prog X.w X.K tg J fp it tn) (st:tn 0 s4.heap) (hF: ∀b∈fp,H3 b=none)
 (io:K8 IR H W J ds) (hz:ds.length<=Oi) (hc:dm g p f (ρ++NR m .no) ds=some ys)
 (hR: ∀(s':NH) (σ':St) (H':Hp) (xs:List V),Inv (aE X N' scope C s3 H3 fp) [] σ' H' s'->Same H H'->H' D0=some (.lst xs)->Reps X.K (vw H' hid) xs ys->R (.ok .next) s'):
 Qp (model X.prog X.w) X.A (.compLoop (.ListComp elt [⟨tg,iter,ifs,0⟩] scope pos) 0 (.ref it) (.ref D0) (Ue scope (oe X.env.cells scope C) C X.env)) R s4:=by
 have stat: ∀ {ah:List (Addr×Obj)} {H':Hp},(∀q∈ah,q.1∉fp)->(∀b∈fp,H' b=none)-> ∀b∈fp,jB (aE X N' scope C s3 H3 fp) ah H' b:=λ{ah H'} hpn hn b hb=>
  ⟨hn b hb,(I.ok.exf b hb).1,I.ok.exfs b hb,.inl hb,(I.ok.exf b hb).2,λq hq e=>hpn q (by have hq':q∈([]:List (Addr×Obj))++ah:=hq;simpa using hq') (by rw[e];exact hb)⟩
 have no: ∀q∈([]:List (Addr×Obj)),q.1∉fp:=λq hq=>nomatch hq
 refine eV (λn s'=> ∃(i:Nat) (xs:List V) (ad:List D) (σ':St) (H':Hp),CLI (aE X N' scope C s3 H3 fp) X.K c hid (ρ++NR m .no) H W D0 fp tn g p f ds ys n i xs ad σ' H' s') ?_ ds.length
  ⟨0,[],[],σ3,H3,by simp,Pe _,I,st,hF,sr,sm,hacc,.nil,wv,Pe _,na,ys,by simpa using hc,rfl⟩
 rintro n s5 ⟨i,xs,ad,σ5,H5,rfl,hi,I5,st5,f5,sr5,sm5,ac5,rp5,w5,hl5,na5,rest,hc5,hy5⟩;have wH:Same W H5:=w5.trans (di _ _)
 by_cases hlt:i<ds.length
 ·have hd:ds[i]? =some ds[i]:=NL hlt;have e2:ds.drop i=ds[i]::ds.drop (i+1):=PH hlt;rw[e2] at hc5;unfold dm at hc5;obtain⟨go,yl⟩:=io.1 i ds[i] H5 hd sm5 wH;refine bU (T.item (aE X N' scope C s3 H3 fp) rfl rfl rfl hcalm i [] s5 σ5 H5 (λ_ _=>False) I5 (stat no f5) st5 go) λr s6 hq_=>?_
  obtain⟨u,hr,h6⟩:=hq_;subst hr;refine bU h6 λ_ s7 hq_=>?_
  obtain⟨x,H7,I7,r7,y7,st7,f7⟩:=hq_;obtain⟨s7',rp⟩:=yl x H7 y7;have rx:=rp hid sr5.tr w5;have I7':=I7.pinned (stat no f7) (T.obj _ _ st7);cases e3:g ds[i] (ρ++NR m .no) with
  |none=>rw[e3] at hc5;cases hc5
  |some ρ1=>
   rw[e3] at hc5;have hc5:(p ρ1).bind (λb=>if b=true then(f ρ1).bind λy=>(dm g p f (ρ++NR m .no) (ds.drop (i+1))).map (y:: ·) else dm g p f (ρ++NR m .no) (ds.drop (i+1)))=some rest:=hc5;obtain⟨tl1,tl2⟩:=hT _ _ _ e3;have fg: ∀ {σ':St} {H':Hp},SR X.K c hid ρ1 σ' H'->SR X.K c hid (ρ++NR m .no) σ' H':=λ{σ' H'} z=>z.forget tl1 λj s e=>by
    by_cases hj:j<X.N.length
    ·exact .inr ((tl2 j hj).trans e)
    ·refine .inl ?_
     rw[Ox (by omega),OZ] at e;split at e
     ·cases e;rfl
     ·cases e
   have keepT: ∀ {σ':St} {H':Hp} {s':NH},Inv (aE X N' scope C s3 H3 fp) ([]++lJ fp s7.heap) σ' H' s'->tn (i+1) s'.heap/\ ∀b∈fp,H' b=none:=λ{σ' H' s'} J'=>by
    refine⟨T.keep _ _ _ st7 λb hb o e=>(J'.pin (b,o) (Op _ (Op _ (da hb e)))).1,λb hb=>?_⟩;obtain⟨o,e,_⟩:=T.obj _ _ st7 b hb;exact(J'.pin (b,o) (Op _ (Op _ (da hb e)))).2.1
   refine bU (hg C s3 H3 fp hid _ ds[i] _ s7 σ5 H7 x u (λσ' H'=>H'=H7/\SR X.K c hid ρ1 σ' H7/\OwK (ρ++NR m .no) ρ1 σ5 σ') I7' r7 ⟨sr5.ext s7',rx,ρ1,e3,λσ' z o=>⟨rfl,z,o⟩⟩) λ_ s8 hq_=>?_
   obtain⟨σ8,H8,I8,e8,q8,o8⟩:=hq_;subst e8;have na8: ∀i:Nat,Ow (ρ++NR m Sl.no)[i]? ->σ8[i]? ≠some (some (.ref D0)):=λj o=>by
    have o1:Ow ρ1[j]? :=by
     by_cases hj:j<X.N.length
     ·rw[tl2 j hj];exact o
     ·exfalso;rw[Ox (by omega),OZ] at o;split at o<;>exact o.elim
    rw[(o8 j o1).2];exact na5 j o
   cases e4:p ρ1 with
   |none=>rw[e4] at hc5;cases hc5
   |some b=>
    rw[e4] at hc5;have hc5:(if b=true then(f ρ1).bind λy=>(dm g p f (ρ++NR m .no) (ds.drop (i+1))).map (y:: ·) else dm g p f (ρ++NR m .no) (ds.drop (i+1)))=some rest:=hc5;refine bU (hp C s3 H3 fp hid ρ1 _ s8 σ8 H8 (λb' H'=>b'=b/\Same H8 H') I8 ⟨q8,b,e4,λH' s'=>⟨rfl,s'⟩⟩) λok s9 hq_=>?_
    obtain⟨H9,I9,e9,sm9⟩:=hq_;subst e9;have w9:Same (vw H5 hid) (vw H9 hid):=aY (s7'.trans sm9);cases ok with
    |false=>
     have hc5:dm g p f (ρ++NR m .no) (ds.drop (i+1))=some rest:=hc5;obtain⟨k1,k2⟩:=keepT I9;exact⟨ds.length- (i+1),by omega,i+1,xs,ad,σ8,H9,rfl,hlt,I9.unpinned,k1,k2,fg (q8.ext sm9),sm5.trans (s7'.trans sm9),sm9 _ _ (s7' _ _ ac5),rp5.mono w9,w5.trans w9,by omega,na8,rest,hc5,hy5⟩
    |true=>
     have hc5:((f ρ1).bind λy=>(dm g p f (ρ++NR m .no) (ds.drop (i+1))).map (y:: ·))=some rest:=hc5;cases e5:f ρ1 with
     |none=>rw[e5] at hc5;cases hc5
     |some y=>
      rw[e5] at hc5;have hc5:(dm g p f (ρ++NR m .no) (ds.drop (i+1))).map (y:: ·)=some rest:=hc5;cases e6:dm g p f (ρ++NR m .no) (ds.drop (i+1)) with
      |none=>rw[e6] at hc5;cases hc5
      |some rest'=>
       rw[e6] at hc5;cases hc5;show N1 (model X.prog X.w) X.A (eval elt _) _ _ s9;refine bU (he C s3 H3 fp hid ρ1 _ s9 σ8 H9 (λv H'=>Same H9 H'/\Rep X.K (vw H' hid) v y) I9 ⟨q8.ext sm9,y,e5,λv H' s' r=>⟨s',r⟩⟩) λv s10 hq_=>?_
       obtain⟨z,H10,I10,rz,sm10,rp10⟩:=hq_;have sm':Same H5 H10:=s7'.trans (sm9.trans sm10);have a10:H10 D0=some (.lst xs):=sm' _ _ ac5;refine bU (eC (X:=aE X N' scope C s3 H3 fp) _ s10 σ8 H10 (.ref D0) [z] (.ref D0) [v] (λ_ H'=>H'=cm H10 D0 (.lst (xs++[z]))) I10 rfl (.cons rz .nil) ⟨D0,xs,z,rfl,rfl,a10,by omega,rfl⟩) λ_ s11 ⟨_,H11,I11,_,e11⟩=>?_
       subst e11;obtain⟨k1,k2⟩:=keepT I11;have vv:vw (cm H10 D0 (.lst (xs++[z]))) hid=vw H10 hid:=fX hh;have w10:Same (vw H5 hid) (vw H10 hid):=aY sm';refine⟨ds.length- (i+1),by omega,i+1,xs++[z],ad++[y],σ8,_,rfl,hlt,I11.unpinned,k1,k2,?_,λb o e=>?_,ba,?_,?_,by simp;omega,na8,rest',e6,by rw[<-hy5];simp⟩
       ·
        have q10:=fg ((q8.ext sm9).ext sm10);exact q10.write hh h00 na8 a10
       ·rw[aR (bG e nD)];exact sm' _ _ (sm5 _ _ e)
       ·rw[vv];exact(rp5.mono w10).append (.cons rp10 .nil)
       ·rw[vv];exact w5.trans w10
 ·have e:i=ds.length:=by omega
  subst e;rw[Qw (NT _)] at hc5;cases hc5;rw[O2] at hy5;subst hy5;refine bU (T.done (aE X N' scope C s3 H3 fp) rfl rfl rfl hcalm ds.length [] s5 σ5 H5 (λ_ _=>False) I5 (stat no f5) st5 (io.2 H5 sm5 wH)) λr s6 hq_=>?_
  obtain⟨hr,I6⟩:=hq_;subst hr;exact hR s6 σ5 H5 xs I6 sm5 ac5 rp5
theorem qX(hcalm:X.calm=true)(hk:scope.kind=.function)(hs:xn scope X.env.scope=true)(hn:xE X.N N' scope=true)(hm:N'.length-X.N.length=m)(hT:jv X.N.length g)
 (hg: ∀C s₀ H₀ ex,L4 IR (aE X N' scope C s₀ H₀ ex) c tg g) (hp: ∀C s₀ H₀ ex,u2 (aE X N' scope C s₀ H₀ ex) c ifs p) (he: ∀C s₀ H₀ ex,DP (aE X N' scope C s₀ H₀ ex) c .s elt f)
 {E:NG->NH->Prop} {ah:List (Addr×Obj)} {σ:St} {H:Hp} {s:NH} {hid:bN} {ρ:aF} {J:It} {it:Addr} {fp:List Addr} {tn:Nat->Heap->Prop} {ds:List ι} {ys:List D} {RR:NG->Addr->T3->NH->Prop}
 (I:Inv X ah σ H s) (sr:SR X.K c hid ρ σ H) (T:Turn X.prog X.w X.K tg J fp it tn) (st:tn 0 s.heap) (hF: ∀b∈fp,jB X ah H b) (io:K8 IR H (vw H hid) J ds) (hz:ds.length<=Oi) (hc:dm g p f (ρ++NR m .no) ds=some ys)
 (hR: ∀(D C:Addr) (s':NH) (H':Hp) (xs:List V),s.heap.objs.size<=D->s.heap.objs.size<=C->D≠C->H D=none->Same H H'->H' D=some (.lst xs)->Reps X.K (vw H' (bc hid D)) xs ys->(∃m,s'.heap.Ns C m)->H' C=none->s'.os=s.os->R7 s'.gens->HOk X.prog X.w H' s'.heap->Un (frs X.stack) fp H H' s.heap s'.heap->RR (.ref D) C (.ok .next) s'):
 N1 (model X.prog X.w) X.A (Vl []) (λacc s₃=>N1 (model X.prog X.w) X.A (Sc scope X.env.globals (tZ X.env.cells scope.names []) [] X.env.qual none .none (some X.env)) (λcenv s₄=>
  Qp (model X.prog X.w) X.A (.compStart (.ListComp elt [⟨tg,iter,ifs,0⟩] scope pos) 0 (.ref it) acc {cenv with scope:=Sb scope X.env}) (RR acc cenv.locals) s₄) E s₃) E s:=by
 refine Pw (ua λh₁ hns₁ kp1 oc₁=>?_);dsimp only at hns₁ kp1 oc₁⊢;generalize hH2:s.heap.push {cls:=.type "list",dict:=none,data:=.seq ([]:List NG).toArray}=H2 at hns₁ kp1 oc₁⊢;have hC:H2.objs.size=s.heap.objs.size+1:=by rw[<-hH2,P8]
 have hD:H s.heap.objs.size=none:=I.hok.fresh (NT _);have I2:Inv X ah σ (cm H s.heap.objs.size (.lst [])) {s with heap:=H2}:=by
  rw[<-hH2];exact I.laid (t':=s.toks) (λb o e=>NM _ e) (NT _) ⟨Pe _,[],0,.nil,NZ _ rfl⟩
 have fpLt: ∀b∈fp,b<s.heap.objs.size:=λb hb=>let⟨o,e,_⟩:=T.obj 0 s.heap st b hb;N0 e
 have hF2: ∀b∈fp,jB X ah (cm H s.heap.objs.size (.lst [])) b:=λb hb=>⟨by rw[aR (Oz (fpLt b hb))];exact(hF b hb).1,(hF b hb).2⟩
 have kp0: ∀b o,s.heap.get? b=some o->H2.get? b=some o:=λb o e=>by rw[<-hH2];exact NM _ e
 have IY:=qb (tk:=s.toks) (N':=N') (fp:=fp) I2 hF2 (λb hb=>let⟨o,e,_⟩:=T.obj 0 s.heap st b hb;⟨o,kp0 b o e⟩) hk hs hn hns₁ kp1 oc₁;rw[hm] at IY;dsimp only at IY;have sr0:SR X.K c (bc hid s.heap.objs.size) (ρ++NR m .no) (σ++NR m none) (cm H s.heap.objs.size (.lst [])):=(sr.hide (bf hD _) hD ba).more m;have hρ:ρ.length=X.N.length:=by rw[<-sr.len];exact I.len
 have nf:hid s.heap.objs.size=false:=sr.fresh hD;have st1:tn 0 h₁:=T.keep _ _ _ st λb hb o e=>kp1 b o (kp0 b o e)
 have na0: ∀i:Nat,Ow (ρ++NR m Sl.no)[i]? ->(σ++NR m none)[i]? ≠some (some (V.ref s.heap.objs.size)):=(sr.more m).notOw nf
 have wv:Same (vw H hid) (vw (cm H s.heap.objs.size (.lst [])) (bc hid s.heap.objs.size)):=by rw[uH hD];exact Same.refl _
 have loop: ∀s4:NH,s4={s with heap:=h₁,toks:=s.toks}->
  Qp (model X.prog X.w) X.A (.compLoop (.ListComp elt [⟨tg,iter,ifs,0⟩] scope pos) 0 (.ref it) (.ref s.heap.objs.size) (Ue scope (oe X.env.cells scope H2.objs.size) H2.objs.size X.env)) (RR (.ref s.heap.objs.size) H2.objs.size) s4:=by
  rintro s4 rfl;refine BI (H:=H) (hid:=bc hid s.heap.objs.size) (W:=vw H hid) hcalm hT hg hp he hρ IY sr0 fH (sr.fresh0 hD) na0 ba (bf hD _) hD wv T st1 (λb hb=>(hF2 b hb).1) io hz hc ?_
  intro s' σ' H' xs I' sm' hx' rp';have un1:Un (frs X.stack) fp H (cm H s.heap.objs.size (.lst [])) s.heap H2:=Un.laid (λb o e=>kp0 b o e) (NT _) hD;refine hR s.heap.objs.size H2.objs.size s' H' xs (NT _) (by rw[hC];exact RZ _) (by rw[hC];exact Oz (O9 _)) hD sm' hx' rp' (let⟨m,hm,_⟩:=I'.loc;⟨m,hm⟩) I'.free I'.os I'.bare I'.hok (un1.trans I'.base)
 exact Sd (loop _ rfl) (T.self X.A 0 _ _ _ st1 (loop _ rfl))
theorem gd(hcalm:X.calm=true)(hT:jv X.N.length g)(hi:M8 IR X c tg iter gi)
 (hg: ∀C s₀ H₀ ex,L4 IR (aE X N' scope C s₀ H₀ ex) c tg g) (hp: ∀C s₀ H₀ ex,u2 (aE X N' scope C s₀ H₀ ex) c ifs p) (he: ∀C s₀ H₀ ex,DP (aE X N' scope C s₀ H₀ ex) c .s elt f)
 (hk:scope.kind=.function:=by rfl) (hs:xn scope X.env.scope=true:=by kernel_rfl) (hn:xE X.N N' scope=true:=by kernel_rfl) (hm:N'.length-X.N.length=m:=by rfl) (hset: ∀x,O6 iter X.env x=pure x:=by intro _;rfl):
 DP X c .n (.ListComp elt [⟨tg,iter,ifs,0⟩] scope pos) (bM m gi g p f):=by
 intro hid ρ ah s σ H Q I hq;obtain⟨sr,d,hd,q⟩:=hq;obtain⟨ds,ys,e1,hz,hc,rfl⟩:=qd hd;rw[X8];refine QX (use:=none) rfl hset (fc λx hx=>I.ok.has x (iD hs x hx)) hk (kQ hs) ?_
 refine bU (hi hid ρ ah s σ H (λJ H'=>Same H H'/\K8 IR H' (vw H' hid) J ds) I ⟨sr,ds,e1,λJ H' s1 io=>⟨s1,io⟩⟩) λv s1 h1=>bU h1 λitv s2 h2=>?_
 obtain⟨it,fp,tn,J,H2,rfl,I2,T,st2,f2,sm,io⟩:=h2;refine qX (RR:=λacc C=>Xs (model X.prog X.w) X.A X.xe none (EP X ah σ Q) acc C) hcalm hk hs hn hm hT hg hp he I2 (sr.ext sm) T st2 f2 io hz hc ?_
 intro D C s' H' xs hDge hCge hDC hD sm' hx rp ⟨mm,hns⟩ hC' hos hbare hok hun;refine⟨mm,hns,λh' hsb=>⟨.ref D,H',?_,rfl,q _ H' (sm.trans sm') ⟨D,xs,ys,rfl,rfl,sm.free hD,hx,rp⟩⟩⟩;have neC: ∀b o,s2.heap.get? b=some o->b≠C:=λb o e z=>by subst z;exact absurd (N0 e) (Ry.mpr hCge)
 have hun':Un (frs X.stack) fp H2 H' s2.heap h':=⟨λb o e n h1 h2=>(hsb.2 b (neC b o e)).trans (hun.keep b o e n h1 h2),λb o e n h1 h2=>let⟨sl,z⟩:=hun.slot b o e n h1 h2;⟨sl,(hsb.2 b (neC b o e)).trans z⟩,hun.free,λb o e h2=>let⟨o',z⟩:=hun.there b o e h2;⟨o',(hsb.2 b (neC b o e)).trans z⟩,hun.tups,hun.frzs,hun.tbls⟩
 have hok':HOk X.prog X.w H' h':=λb o e=>by
  have nb: ∀b' o',H' b'=some o'->b'≠C:=λb' o' e' z=>by subst z;rw[hC'] at e';cases e'
  refine(hok b o e).stay (λc' u hc' z=>(hsb.2 c' ?_).trans z) (λ_ z=>z) λ_ _ z=>z
  rcases hc' with z'|z'
  ·rw[z'];exact nb b o e
  ·exact nb c' _ z'
 exact I2.call' (s':={s' with heap:=h'}) (ch:=fp) hos hun' hok' hbare λb hb=>⟨(f2 b hb).2.2.2.1,(f2 b hb).2.1,(f2 b hb).2.2.2.2.1,(f2 b hb).2.2.2.2.2⟩
end
section
variable {X:Cx}{c:Ct}{elt tg iter:Expr}{ifs:List Expr}{scope:Qr}{pos spos py:Pos}{N':List Str}{m:Nat}{gi:FA}{g:FG}{p:FT}{f:FE}{y:Str}
theorem Gp(i:Nat)(hcalm:X.calm=true)(hN:X.N.Nodup)(hT:jv X.N.length g)(hi:LU X c tg iter gi)
 (hg: ∀C s₀ H₀ ex,tx (aE X N' scope C s₀ H₀ ex) c tg g) (hp: ∀C s₀ H₀ ex,u2 (aE X N' scope C s₀ H₀ ex) c ifs p) (he: ∀C s₀ H₀ ex,DP (aE X N' scope C s₀ H₀ ex) c .s elt f)
 (hsw:Q1 (.ListComp elt [⟨tg,iter,ifs,0⟩] scope pos) (some (.Name y py)) spos.line X.env=pure true) (hyi:X.N[i]? =some y) (hy:X.env.scope.names.lookup y=some .local)
 (hk:scope.kind=.function) (hs:xn scope X.env.scope=true) (hn:xE X.N N' scope=true) (hm:N'.length-X.N.length=m) (hset: ∀x,O6 iter X.env x=pure x) (ρ:aF):
 PS X (.Assign [.Name y py] (.ListComp elt [⟨tg,iter,ifs,0⟩] scope pos) spos) (Gj (λσ H Q=> ∃hid,Fj X.K c hid .n (bM m gi g p f) ρ σ H Q) (zw i)):=by
 intro ah s σ H E I hq;obtain⟨hid,sr,d,hd,q⟩:=hq;obtain⟨ds,ys,e1,hz,hc,rfl⟩:=qd hd;rw[UR _ _ _ _ hsw];refine NE (Qi (NE ?_));show N1 _ X.A (do let _ <-X9 (.ListComp elt [⟨tg,iter,ifs,0⟩] scope pos) scope X.env _ (Vl []) false (eval iter X.env) (some (Q2 (.Name y py) X.env))) _ _ s;refine NE (OM (QX (use:=some (Q2 (.Name y py) X.env)) (Q:=λ_ s'=>SP X ah E .next s') rfl hset (fc λx hx=>I.ok.has x (iD hs x hx)) hk (kQ hs) ?_) (λ_ s' hq=>NJ (NJ hq)) λ_ _ e=>e);refine bU (hi hid ρ ah s σ H (λJ H'=>Same H H'/\Ld X.K H' (vw H' hid) J ds) I ⟨sr,ds,e1,λJ H' s1 io=>⟨s1,io⟩⟩) λv s1 h1=>bU h1 λitv s2 h2=>?_
 obtain⟨it,fp,tn,J,H2,rfl,I2,T,st2,f2,sm,io⟩:=h2;refine qX (IR:=Rep X.K) (RR:=λacc C=>Xs (model X.prog X.w) X.A X.xe (some (Q2 (.Name y py) X.env)) (λ_ s'=>SP X ah E .next s') acc C) hcalm hk hs hn hm hT hg hp he I2 (sr.ext sm) T st2 f2 io hz hc ?_
 intro D C s' H' xs hDge hCge hDC hD sm' hx rp ⟨mm,hns⟩ hC' hos hbare hok hun;have I3:Inv X ah σ H' s':=I2.call' (ch:=fp) hos hun hok hbare λb hb=>⟨(f2 b hb).2.2.2.1,(f2 b hb).2.1,(f2 b hb).2.2.2.2.1,(f2 b hb).2.2.2.2.2⟩
 have fin:=q _ H' (sm.trans sm') ⟨D,xs,ys,rfl,rfl,sm.free hD,hx,rp⟩;have ltC: ∀b o,s2.heap.get? b=some o->b≠C:=λb o e z=>by subst z;exact absurd (N0 e) (Ry.mpr hCge)
 have hLC:C≠X.env.locals:=λz=>by
  have:=I2.lt;rw[<-z] at this;exact absurd this (Ry.mpr hCge)
 show N1 _ X.A (Q2 (.Name y py) X.env (.ref D)) _ _ s';refine TH (nX (v:=.ref D) I3 hN hyi (.inl hy) rfl (λs'' I4 hb=>?_) (.inr hy));obtain⟨a,hsb,ha⟩:=hb;have hCa:C≠a:=by
  rcases ha with rfl|ha
  ·exact hLC
  ·obtain⟨w',o,ho,_⟩:=I2.cell y a ha;exact λz=>ltC a o ho z.symm
 refine⟨mm,hns.sameBut hsb hCa,λh3 hs3=>⟨_,H',?_,fin⟩⟩;refine I4.turned (t':=s''.toks) (it:=C) (λb o nb e=>(hs3.2 b nb).trans e) hC' hLC (.inr (OE I2.sz hCge)) (λx c' e z=>?_) (λq hq z=>?_)
 ·obtain⟨w',o,ho,_⟩:=I2.cell x c' e;exact ltC c' o ho z
 ·exact ltC q.1 q.2 (I2.pin q hq).1 z
theorem tI(i:Nat){k:Kd}(hcalm:X.calm=true)(hN:X.N.Nodup)(hT:jv X.N.length g)(hi:LU X c tg iter gi)
 (hg: ∀C s₀ H₀ ex,tx (aE X N' scope C s₀ H₀ ex) c tg g) (hp: ∀C s₀ H₀ ex,u2 (aE X N' scope C s₀ H₀ ex) c ifs p) (he: ∀C s₀ H₀ ex,DP (aE X N' scope C s₀ H₀ ex) c .s elt f)
 (hsw:Q1 (.ListComp elt [⟨tg,iter,ifs,0⟩] scope pos) (some (.Name y py)) spos.line X.env=pure true:=by rfl) (hyi:X.N[i]? =some y:=by rfl) (hy:X.env.scope.names.lookup y=some .local:=by rfl)
 (hk:scope.kind=.function:=by rfl) (hs:xn scope X.env.scope=true:=by kernel_rfl) (hn:xE X.N N' scope=true:=by kernel_rfl) (hm:N'.length-X.N.length=m:=by rfl) (hset: ∀x,O6 iter X.env x=pure x:=by intro _;rfl):
 DS X c k (.Assign [.Name y py] (.ListComp elt [⟨tg,iter,ifs,0⟩] scope pos) spos) (a8 i (bM m gi g p f)):=λρ=>PS.imp (Gp i hcalm hN hT hi hg hp he hsw hyi hy hk hs hn hm hset ρ) λD σ H hq_=>by
 obtain⟨hid,sr,q⟩:=hq_;unfold a8 at q;cases e1:bM m gi g p f ρ with
 |none=>rw[e1] at q;exact q.elim
 |some z=>
  rw[e1] at q;exact⟨hid,sr,z,e1,λv H' s r=>q _ H' hid ((sr.ext s).setV (RN.rep r λa n=>sr.fresh n) i) (aY s)⟩
end
mutual
def dq:D->D->Bool
 | .non,.non=>true
 | .bl a,.bl b=>a==b
 | .bl a,.int b=>(if a then 1 else 0)==b
 | .int a,.bl b=>a==(if b then 1 else 0)
 | .int a,.int b=>a==b
 | .str a,.str b=>a==b
 | .tup a,.tup b=>c7 a b
 | .lst a,.lst b=>c7 a b
 | .lst a,.scr b=>c7 a b
 | .scr a,.lst b=>c7 a b
 | .scr a,.scr b=>c7 a b
 |_,_=>false
def c7:List D->List D->Bool
 | [],[]=>true
 |x::xs,y::ys=>dq x y&&c7 xs ys
 |_,_=>false
end
mutual
def fq:D->Nat
 | .tup a=>cE a+1
 | .lst a=>cE a+1
 | .scr _=>PY
 |_=>0
def cE:List D->Nat
 | []=>0
 |x::xs=>max (fq x) (cE xs)
end
theorem nr: ∀ {xs:List D} {i:Nat} {d:D},xs[i]? =some d->fq d<=cE xs
 | [],_,_,h=>by simp at h
 |x::xs,0,d,h=>by simp at h;subst h;unfold cE;exact Nat.le_max_left _ _
 |x::xs,i+1,d,h=>by
  have:=nr (xs:=xs) (i:=i) (d:=d) (by simpa using h);unfold cE;exact OE this (Uf _ _)
mutual
theorem mD: ∀x:D,dq x x=true
 | .non=>by unfold dq;rfl
 | .bl a=>by unfold dq;simp
 | .int a=>by unfold dq;simp
 | .str a=>by unfold dq;simp
 | .tup a=>by unfold dq;exact kz a
 | .lst a=>by unfold dq;exact kz a
 | .scr a=>by unfold dq;exact kz a
theorem kz: ∀x:List D,c7 x x=true
 | []=>by unfold c7;rfl
 |x::xs=>by unfold c7;rw[mD x,kz xs];rfl
end
def k6(xs ys:List D)(j:Nat):Bool:=match xs[j]?,ys[j]? with
 |some x,some y=>dq x y
 |_,_=>false
theorem sP {xs ys:List D}(h:xs.length=ys.length):(ND xs.length).all (k6 xs ys)=c7 xs ys:=by
 induction xs generalizing ys with
 |nil=>
  cases ys with
  |nil=>unfold c7;rfl
  |cons y ys=>simp at h
 |cons x xs ih=>
  cases ys with
  |nil=>simp at h
  |cons y ys=>
   rw[On,Qx,T6,Uy];have e0:k6 (x::xs) (y::ys) 0=dq x y:=rfl;have e1:((k6 (x::xs) (y::ys))∘QE)=k6 xs ys:=by funext j;simp[k6]
   rw[e0,e1,ih (by simpa using h)]
   conv=>rhs;unfold c7
theorem p4: ∀ {xs ys:List D},xs.length≠ys.length->c7 xs ys=false
 | [],[],h=>absurd rfl h
 | [],_::_,_=>by unfold c7;rfl
 |_::_,[],_=>by unfold c7;rfl
 |x::xs,y::ys,h=>by unfold c7;rw[p4 (xs:=xs) (ys:=ys) (by simpa using h)];simp
section
variable {X:Cx}{ah:List (Addr×Obj)}{σ:St}{H:Hp}{s:NH}
theorem fL(I:Inv X ah σ H s){a:Addr}{xs ys:List V}(h:SqL X.K H a xs)(h':SqT X.K H a ys):False:=by
 obtain⟨its,_,pl,_⟩:=I.list h;obtain⟨its',_,pt,_⟩:=I.tuple h';exact SeqAt.ne_of_list_tuple pl.isList pt rfl
theorem JY {a b:List D}(h: ∀zs,c7 a zs=c7 b zs):(∀z,dq (.tup a) z=dq (.tup b) z)/\(∀z,dq (.lst a) z=dq (.lst b) z)/\ ∀z,dq (.scr a) z=dq (.lst b) z:=by
 refine⟨λz=>?_,λz=>?_,λz=>?_⟩<;>cases z<;>unfold dq<;>first|exact h _|rfl
theorem KW {b:List D}: ∀z,dq (.scr b) z=dq (.lst b) z:=(JY λ_=>rfl).2.2
mutual
theorem Rep.eqv(I:Inv X ah σ H s): ∀ {v:V} {x y:D},Rep X.K H v x->Rep X.K H v y-> ∀z,dq x z=dq y z
 |_,_,_,.non,.non=>λ_=>rfl
 |_,_,_,.bl,.bl=>λ_=>rfl
 |_,_,_,.int,.int=>λ_=>rfl
 |_,_,_,.str,.str=>λ_=>rfl
 |_,_,_,.tup h r,.tup h' r'=>by rw[I.tuple_inj h h'] at r;exact(JY (Reps.eqv I r r')).1
 |_,_,_,.lst h r,.lst h' r'=>by rw[I.list_inj (SqL.of h) (SqL.of h')] at r;exact(JY (Reps.eqv I r r')).2.1
 |_,_,_,.lst h r,.scr h' r'=>by rw[I.list_inj (SqL.of h) h'.seq] at r;exact λz=>((JY (Reps.eqv I r r')).2.1 z).trans (KW z).symm
 |_,_,_,.scr h r,.lst h' r'=>by rw[I.list_inj h.seq (SqL.of h')] at r;exact(JY (Reps.eqv I r r')).2.2
 |_,_,_,.scr h r,.scr h' r'=>by rw[I.list_inj h.seq h'.seq] at r;exact λz=>((JY (Reps.eqv I r r')).2.2 z).trans (KW z).symm
 |_,_,_,.tup h r,.lst h' r'=>(fL I (SqL.of h') h).elim
 |_,_,_,.lst h r,.tup h' r'=>(fL I (SqL.of h) h').elim
 |_,_,_,.tup h r,.scr h' r'=>(fL I h'.seq h).elim
 |_,_,_,.scr h r,.tup h' r'=>(fL I h.seq h').elim
theorem Reps.eqv(I:Inv X ah σ H s): ∀ {v:List V} {x y:List D},Reps X.K H v x->Reps X.K H v y-> ∀z,c7 x z=c7 y z
 |_,_,_,.nil,.nil=>λ_=>rfl
 |_,_,_,.cons r t,.cons r' t'=>λz=>by
  cases z with
  |nil=>unfold c7;rfl
  |cons w ws=>unfold c7;rw[Rep.eqv I r r' w,Reps.eqv I t t' ws]
end
theorem aJ(I:Inv X ah σ H s){a:Addr}{xs:List V}{ds:List D}(h:SqL X.K H a xs)(r:Reps X.K H xs ds): ∃its:List NG,s.heap.IsList a its.toArray/\its.length=ds.length/\ ∀(j:Nat) (hj:j<its.length),∃(v:V) (d:D),ds[j]? =some d/\RelV v its[j]/\Rep X.K H v d:=by
 obtain⟨its,rv,pl,_⟩:=I.list h;have h1:=rv.length;have h2:=r.length;refine⟨its,pl.isList,by omega,λj hj=>?_⟩;have e:xs[j]? =some xs[j]:=NL (by omega);obtain⟨u,e1,r1⟩:=rv.get e;obtain⟨d,e2,r2⟩:=r.get' e;have:its[j]=u:=by rw[NL hj] at e1;exact OS e1
 rw[this];exact⟨xs[j],d,e2,r1,r2⟩
theorem b8(I:Inv X ah σ H s){a:Addr}{xs:List V}{ds:List D}(h:SqT X.K H a xs)(r:Reps X.K H xs ds): ∃its:List NG,s.heap.IsTuple a its.toArray/\its.length=ds.length/\ ∀(j:Nat) (hj:j<its.length),∃(v:V) (d:D),ds[j]? =some d/\RelV v its[j]/\Rep X.K H v d:=by
 obtain⟨its,rv,pl,_⟩:=I.tuple h;have h1:=rv.length;have h2:=r.length;refine⟨its,pl,by omega,λj hj=>?_⟩;have e:xs[j]? =some xs[j]:=NL (by omega);obtain⟨u,e1,r1⟩:=rv.get e;obtain⟨d,e2,r2⟩:=r.get' e;have:its[j]=u:=by rw[NL hj] at e1;exact OS e1
 rw[this];exact⟨xs[j],d,e2,r1,r2⟩
end
section
variable {X:Cx}{ah:List (Addr×Obj)}{σ:St}{H:Hp}{s:NH}
theorem eM(A:OL):A.in1.units=A.units+1:=rfl
theorem Hz {A:OL}{n:Nat}(IH: ∀ {x y:D} {v u:V} {a b:NG} {A:OL},fq x<n->A.units+fq x<PY->RelV v a->RelV u b->Rep X.K H v x->Rep X.K H u y->QF A s a b (dq x y)){xs ys:List D}{its its2:List NG}(hd:cE xs<n)(hu:A.units+cE xs<PY)
 (g1: ∀(j:Nat) (hj:j<its.length),∃(v:V) (d:D),xs[j]? =some d/\RelV v its[j]/\Rep X.K H v d) (g2: ∀(j:Nat) (hj:j<its2.length),∃(v:V) (d:D),ys[j]? =some d/\RelV v its2[j]/\Rep X.K H v d):
 ∀j (h1:j<its.toArray.size) (h2:j<its2.toArray.size),QF A s its.toArray[j] its2.toArray[j] (k6 xs ys j):=λj h1 h2=>by
 obtain⟨v,d,e1,r1,p1⟩:=g1 j (by simpa using h1);obtain⟨u,d',e2,r2,p2⟩:=g2 j (by simpa using h2);have ez:k6 xs ys j=dq d d':=by unfold k6;rw[e1,e2]
 rw[ez];have hdd:=nr e1;exact IH (by omega) (by omega) (by simpa using r1) (by simpa using r2) p1 p2
theorem kv(I:Inv X ah σ H s){A:OL}{n:Nat}(IH: ∀ {x y:D} {v u:V} {a b:NG} {A:OL},fq x<n->A.units+fq x<PY->RelV v a->RelV u b->Rep X.K H v x->Rep X.K H u y->QF A s a b (dq x y)){xs ys:List D}{zs ws:List V}{a b:Addr}(hd:cE xs<n)(hu:A.units+(cE xs+1)<PY)
 (h1:SqL X.K H a zs) (r1:Reps X.K H zs xs) (h2:SqL X.K H b ws) (r2:Reps X.K H ws ys):Xu A s (.ref a) (.ref b) (c7 xs ys)/\Wb A s (.ref a) (.ref b) (!c7 xs ys):=by
 obtain⟨its,l1,n1,g1⟩:=aJ I h1 r1;obtain⟨its2,l2,n2,g2⟩:=aJ I h2 r2
 by_cases e:xs.length=ys.length
 ·have hsz:its.toArray.size=its2.toArray.size:=by simp;omega
  have he:=Hz (A:=A.in1) IH hd (by rw[eM];omega) g1 g2;have ea:(ND its.toArray.size).all (k6 xs ys)=c7 xs ys:=by rw[N9,n1];exact sP e
  rw[<-ea];exact⟨SeqAt.RcAt.lists l1 l2 hsz (by omega) he,jce l1 l2 hsz (by omega) he⟩
 ·rw[p4 e];have hsz:(its.toArray.size !=its2.toArray.size)=true:=by simp;omega
  exact⟨Ya l1 l2 hsz (by omega),Xv l1 l2 hsz (by omega)⟩
theorem yY(I:Inv X ah σ H s){A:OL}{n:Nat}(IH: ∀ {x y:D} {v u:V} {a b:NG} {A:OL},fq x<n->A.units+fq x<PY->RelV v a->RelV u b->Rep X.K H v x->Rep X.K H u y->QF A s a b (dq x y)){xs ys:List D}{zs ws:List V}{a b:Addr}(hd:cE xs<n)(hu:A.units+(cE xs+1)<PY)
 (h1:SqT X.K H a zs) (r1:Reps X.K H zs xs) (h2:SqT X.K H b ws) (r2:Reps X.K H ws ys):Xu A s (.ref a) (.ref b) (c7 xs ys)/\Wb A s (.ref a) (.ref b) (!c7 xs ys):=by
 obtain⟨its,l1,n1,g1⟩:=b8 I h1 r1;obtain⟨its2,l2,n2,g2⟩:=b8 I h2 r2;have he:=Hz (A:=A.in1) IH hd (by rw[eM];omega) g1 g2;have ea:((ND (min its.toArray.size its2.toArray.size)).all (k6 xs ys)&&its.toArray.size==its2.toArray.size)=c7 xs ys:=by
  rw[N9,N9,n1,n2]
  by_cases e:xs.length=ys.length
  ·rw[<-e,Nat.min_self,sP e];simp
  ·rw[p4 e];simp[e]
 rw[<-ea];exact⟨SeqAt.RcAt.tuples l1 l2 (by omega) he,jbe l1 l2 (by omega) he⟩
theorem oN(I:Inv X ah σ H s){A:OL}{a b:Addr}{x y:D}(r1:Rep X.K H (.ref a) x)(r2:Rep X.K H (.ref b) y)(e:a=b):QF A s (.ref a) (.ref b) (dq x y):=by
 subst e;rw[Rep.eqv I r1 r2,mD];exact WY _
theorem JU(I:Inv X ah σ H s){n:Nat}(IH: ∀ {x y:D} {v u:V} {a b:NG} {A:OL},fq x<n->A.units+fq x<PY->RelV v a->RelV u b->Rep X.K H v x->Rep X.K H u y->QF A s a b (dq x y)){x y:D}{v u:V}{a b:NG}{A:OL}(hd:fq x<n+1)(hu:A.units+fq x<PY)(hc:A.units<PY)
 (ra:RelV v a) (rb:RelV u b) (px:Rep X.K H v x) (py:Rep X.K H u y):QF A s a b (dq x y):=by
 unfold dq;cases px with
 |non=>
  cases ra;cases py with
  |non=>
   cases rb;exact WY _
  |bl=>
   cases rb;exact SeqAt.EqAt.none_bool _
  |int=>
   obtain⟨t2,rfl⟩:=rb;exact SeqAt.EqAt.none_int _ _
  |str=>
   obtain⟨t2,rfl⟩:=rb;exact SeqAt.EqAt.none_str _ _
  | @tup a2 _ _ h2 r2=>
    cases rb;obtain⟨its2,l2,_⟩:=b8 I h2 r2;exact Zt l2 (by omega)
  | @lst a2 _ _ h2 r2=>
    cases rb;obtain⟨its2,l2,_⟩:=aJ I (SqL.of h2) r2;exact U6 l2 (by omega)
  | @scr a2 _ _ h2 r2=>
    cases rb;obtain⟨its2,l2,_⟩:=aJ I h2.seq r2;exact U6 l2 (by omega)
 |bl=>
  cases ra;cases py with
  |non=>
   cases rb;exact SeqAt.EqAt.bool_none _
  |bl=>
   cases rb;exact SeqAt.EqAt.bool_bool _ _
  |int=>
   obtain⟨t2,rfl⟩:=rb;exact SeqAt.EqAt.bool_int _ _ _
  |str=>
   obtain⟨t2,rfl⟩:=rb;exact SeqAt.EqAt.bool_str _ _ _
  | @tup a2 _ _ h2 r2=>
    cases rb;obtain⟨its2,l2,_⟩:=b8 I h2 r2;exact Zu _ l2 (by omega)
  | @lst a2 _ _ h2 r2=>
    cases rb;obtain⟨its2,l2,_⟩:=aJ I (SqL.of h2) r2;exact U7 _ l2 (by omega)
  | @scr a2 _ _ h2 r2=>
    cases rb;obtain⟨its2,l2,_⟩:=aJ I h2.seq r2;exact U7 _ l2 (by omega)
 |int=>
  obtain⟨t1,rfl⟩:=ra;cases py with
  |non=>
   cases rb;exact SeqAt.EqAt.int_none _ _
  |bl=>
   cases rb;exact SeqAt.EqAt.int_bool _ _ _
  |int=>
   obtain⟨t2,rfl⟩:=rb;exact SeqAt.EqAt.int_int _ _ _ _
  |str=>
   obtain⟨t2,rfl⟩:=rb;exact VR _ _ _ _
  | @tup a2 _ _ h2 r2=>
    cases rb;obtain⟨its2,l2,_⟩:=b8 I h2 r2;exact SeqAt.EqAt.int_tuple _ _ l2 (by omega)
  | @lst a2 _ _ h2 r2=>
    cases rb;obtain⟨its2,l2,_⟩:=aJ I (SqL.of h2) r2;exact Vp _ _ l2 (by omega)
  | @scr a2 _ _ h2 r2=>
    cases rb;obtain⟨its2,l2,_⟩:=aJ I h2.seq r2;exact Vp _ _ l2 (by omega)
 |str=>
  obtain⟨t1,rfl⟩:=ra;cases py with
  |non=>
   cases rb;exact SeqAt.EqAt.str_none _ _
  |bl=>
   cases rb;exact SeqAt.EqAt.str_bool _ _ _
  |int=>
   obtain⟨t2,rfl⟩:=rb;exact VS _ _ _ _
  |str=>
   obtain⟨t2,rfl⟩:=rb;exact SeqAt.EqAt.str_str _ _ _ _
  | @tup a2 _ _ h2 r2=>
    cases rb;obtain⟨its2,l2,_⟩:=b8 I h2 r2;exact SeqAt.EqAt.str_tuple _ _ l2 (by omega)
  | @lst a2 _ _ h2 r2=>
    cases rb;obtain⟨its2,l2,_⟩:=aJ I (SqL.of h2) r2;exact Vq _ _ l2 (by omega)
  | @scr a2 _ _ h2 r2=>
    cases rb;obtain⟨its2,l2,_⟩:=aJ I h2.seq r2;exact Vq _ _ l2 (by omega)
 | @tup a1 _ _ h1 r1=>
   cases ra;obtain⟨its,l1,_⟩:=b8 I h1 r1;cases py with
   |non=>
    cases rb;exact Zv l1 (by omega)
   |bl=>
    cases rb;exact Zw _ l1 (by omega)
   |int=>
    obtain⟨t2,rfl⟩:=rb;exact SeqAt.EqAt.tuple_int _ _ l1 (by omega)
   |str=>
    obtain⟨t2,rfl⟩:=rb;exact SeqAt.EqAt.tuple_str _ _ l1 (by omega)
   | @tup a2 _ _ h2 r2=>
     cases rb;obtain⟨its2,l2,_⟩:=b8 I h2 r2
     by_cases e:a1=a2
     ·exact(oN I (.tup h1 r1) (.tup h2 r2) e)
     ·exact Tp e (yY I IH (by unfold fq at hd;omega) (by unfold fq at hu;omega) h1 r1 h2 r2).1
   | @lst a2 _ _ h2 r2=>
     cases rb;obtain⟨its2,l2,_⟩:=aJ I (SqL.of h2) r2;exact US l1 l2 (by omega)
   | @scr a2 _ _ h2 r2=>
     cases rb;obtain⟨its2,l2,_⟩:=aJ I h2.seq r2;exact US l1 l2 (by omega)
 | @scr a1 _ _ h1 r1=>exact absurd hu (by unfold fq;omega)
 | @lst a1 _ _ h1 r1=>
   cases ra;obtain⟨its,l1,_⟩:=aJ I (SqL.of h1) r1;cases py with
   |non=>
    cases rb;exact SeqAt.EqAt.list_none l1 (by omega)
   |bl=>
    cases rb;exact SeqAt.EqAt.list_bool _ l1 (by omega)
   |int=>
    obtain⟨t2,rfl⟩:=rb;exact SeqAt.EqAt.list_int _ _ l1 (by omega)
   |str=>
    obtain⟨t2,rfl⟩:=rb;exact SeqAt.EqAt.list_str _ _ l1 (by omega)
   | @tup a2 _ _ h2 r2=>
     cases rb;obtain⟨its2,l2,_⟩:=b8 I h2 r2;exact Zx l1 l2 (by omega)
   | @lst a2 _ _ h2 r2=>
     cases rb;obtain⟨its2,l2,_⟩:=aJ I (SqL.of h2) r2
     by_cases e:a1=a2
     ·exact(oN I (.lst h1 r1) (.lst h2 r2) e)
     ·exact Tp e (kv I IH (by unfold fq at hd;omega) (by unfold fq at hu;omega) (SqL.of h1) r1 (SqL.of h2) r2).1
   | @scr a2 _ _ h2 r2=>
     cases rb;obtain⟨its2,l2,_⟩:=aJ I h2.seq r2
     by_cases e:a1=a2
     ·exact(oN I (.lst h1 r1) (.scr h2 r2) e)
     ·exact Tp e (kv I IH (by unfold fq at hd;omega) (by unfold fq at hu;omega) (SqL.of h1) r1 h2.seq r2).1
theorem oM(I:Inv X ah σ H s): ∀(n:Nat) {x y:D} {v u:V} {a b:NG} {A:OL},fq x<n->A.units+fq x<PY->RelV v a->RelV u b->Rep X.K H v x->Rep X.K H u y->QF A s a b (dq x y)
 |0,x,y,v,u,a,b,A,hd,hu,ra,rb,px,py=>absurd hd (UI _)
 |n+1,x,y,v,u,a,b,A,hd,hu,ra,rb,px,py=>JU I (λh1 h2 h3 h4 h5 h6=>oM I n h1 h2 h3 h4 h5 h6) hd hu (by omega) ra rb px py
theorem Jj(I:Inv X ah σ H s){x y:D}{v u:V}{a b:NG}{A:OL}(hu:A.units+fq x<PY)(hc:A.units<PY)(ra:RelV v a)(rb:RelV u b)(px:Rep X.K H v x)(py:Rep X.K H u y):Xu A s a b (dq x y):=by
 have IH:=λ{x y:D} {v u:V} {a b:NG} {A:OL} (n:Nat)=> @oM X ah σ H s I n x y v u a b A
 have IH: ∀ {n:Nat} {x y:D} {v u:V} {a b:NG} {A:OL},fq x<n->A.units+fq x<PY->RelV v a->RelV u b->Rep X.K H v x->Rep X.K H u y->QF A s a b (dq x y):=λ{n x y v u a b A}=>oM I n
 unfold dq;cases px with
 |non=>
  cases ra;cases py with
  |non=>
   cases rb;exact SeqAt.RcAt.none_none
  |bl=>
   cases rb;exact SeqAt.RcAt.none_bool _
  |int=>
   obtain⟨t2,rfl⟩:=rb;exact SeqAt.RcAt.none_int _ _
  |str=>
   obtain⟨t2,rfl⟩:=rb;exact SeqAt.RcAt.none_str _ _
  | @tup a2 _ _ h2 r2=>
    cases rb;obtain⟨its2,l2,_⟩:=b8 I h2 r2;exact Zy l2 (by omega)
  | @lst a2 _ _ h2 r2=>
    cases rb;obtain⟨its2,l2,_⟩:=aJ I (SqL.of h2) r2;exact U8 l2 (by omega)
  | @scr a2 _ _ h2 r2=>
    cases rb;obtain⟨its2,l2,_⟩:=aJ I h2.seq r2;exact U8 l2 (by omega)
 |bl=>
  cases ra;cases py with
  |non=>
   cases rb;exact SeqAt.RcAt.bool_none _
  |bl=>
   cases rb;exact SeqAt.RcAt.bool_bool _ _
  |int=>
   obtain⟨t2,rfl⟩:=rb;exact SeqAt.RcAt.bool_int _ _ _
  |str=>
   obtain⟨t2,rfl⟩:=rb;exact SeqAt.RcAt.bool_str _ _ _
  | @tup a2 _ _ h2 r2=>
    cases rb;obtain⟨its2,l2,_⟩:=b8 I h2 r2;exact Zz _ l2 (by omega)
  | @lst a2 _ _ h2 r2=>
    cases rb;obtain⟨its2,l2,_⟩:=aJ I (SqL.of h2) r2;exact U9 _ l2 (by omega)
  | @scr a2 _ _ h2 r2=>
    cases rb;obtain⟨its2,l2,_⟩:=aJ I h2.seq r2;exact U9 _ l2 (by omega)
 |int=>
  obtain⟨t1,rfl⟩:=ra;cases py with
  |non=>
   cases rb;exact SeqAt.RcAt.int_none _ _
  |bl=>
   cases rb;exact SeqAt.RcAt.int_bool _ _ _
  |int=>
   obtain⟨t2,rfl⟩:=rb;exact SeqAt.RcAt.int_int _ _ _ _
  |str=>
   obtain⟨t2,rfl⟩:=rb;exact SeqAt.RcAt.int_str _ _ _ _
  | @tup a2 _ _ h2 r2=>
    cases rb;obtain⟨its2,l2,_⟩:=b8 I h2 r2;exact SeqAt.RcAt.int_tuple _ _ l2 (by omega)
  | @lst a2 _ _ h2 r2=>
    cases rb;obtain⟨its2,l2,_⟩:=aJ I (SqL.of h2) r2;exact Vr _ _ l2 (by omega)
  | @scr a2 _ _ h2 r2=>
    cases rb;obtain⟨its2,l2,_⟩:=aJ I h2.seq r2;exact Vr _ _ l2 (by omega)
 |str=>
  obtain⟨t1,rfl⟩:=ra;cases py with
  |non=>
   cases rb;exact SeqAt.RcAt.str_none _ _
  |bl=>
   cases rb;exact SeqAt.RcAt.str_bool _ _ _
  |int=>
   obtain⟨t2,rfl⟩:=rb;exact SeqAt.RcAt.str_int _ _ _ _
  |str=>
   obtain⟨t2,rfl⟩:=rb;exact SeqAt.RcAt.str_str _ _ _ _
  | @tup a2 _ _ h2 r2=>
    cases rb;obtain⟨its2,l2,_⟩:=b8 I h2 r2;exact SeqAt.RcAt.str_tuple _ _ l2 (by omega)
  | @lst a2 _ _ h2 r2=>
    cases rb;obtain⟨its2,l2,_⟩:=aJ I (SqL.of h2) r2;exact Vs _ _ l2 (by omega)
  | @scr a2 _ _ h2 r2=>
    cases rb;obtain⟨its2,l2,_⟩:=aJ I h2.seq r2;exact Vs _ _ l2 (by omega)
 | @tup a1 _ _ h1 r1=>
   cases ra;obtain⟨its,l1,_⟩:=b8 I h1 r1;cases py with
   |non=>
    cases rb;exact ZA l1 (by omega)
   |bl=>
    cases rb;exact ZB _ l1 (by omega)
   |int=>
    obtain⟨t2,rfl⟩:=rb;exact SeqAt.RcAt.tuple_int _ _ l1 (by omega)
   |str=>
    obtain⟨t2,rfl⟩:=rb;exact SeqAt.RcAt.tuple_str _ _ l1 (by omega)
   | @tup a2 _ _ h2 r2=>
     cases rb;obtain⟨its2,l2,_⟩:=b8 I h2 r2;exact(yY I IH (O9 _) (by unfold fq at hu;omega) h1 r1 h2 r2).1
   | @lst a2 _ _ h2 r2=>
     cases rb;obtain⟨its2,l2,_⟩:=aJ I (SqL.of h2) r2;exact UT l1 l2 (by omega)
   | @scr a2 _ _ h2 r2=>
     cases rb;obtain⟨its2,l2,_⟩:=aJ I h2.seq r2;exact UT l1 l2 (by omega)
 | @scr a1 _ _ h1 r1=>exact absurd hu (by unfold fq;omega)
 | @lst a1 _ _ h1 r1=>
   cases ra;obtain⟨its,l1,_⟩:=aJ I (SqL.of h1) r1;cases py with
   |non=>
    cases rb;exact SeqAt.RcAt.list_none l1 (by omega)
   |bl=>
    cases rb;exact SeqAt.RcAt.list_bool _ l1 (by omega)
   |int=>
    obtain⟨t2,rfl⟩:=rb;exact SeqAt.RcAt.list_int _ _ l1 (by omega)
   |str=>
    obtain⟨t2,rfl⟩:=rb;exact SeqAt.RcAt.list_str _ _ l1 (by omega)
   | @tup a2 _ _ h2 r2=>
     cases rb;obtain⟨its2,l2,_⟩:=b8 I h2 r2;exact ZC l1 l2 (by omega)
   | @lst a2 _ _ h2 r2=>
     cases rb;obtain⟨its2,l2,_⟩:=aJ I (SqL.of h2) r2;exact(kv I IH (O9 _) (by unfold fq at hu;omega) (SqL.of h1) r1 (SqL.of h2) r2).1
   | @scr a2 _ _ h2 r2=>
     cases rb;obtain⟨its2,l2,_⟩:=aJ I h2.seq r2;exact(kv I IH (O9 _) (by unfold fq at hu;omega) (SqL.of h1) r1 h2.seq r2).1
theorem Ci(I:Inv X ah σ H s){x y:D}{v u:V}{a b:NG}{A:OL}(hu:A.units+fq x<PY)(hc:A.units<PY)(ra:RelV v a)(rb:RelV u b)(px:Rep X.K H v x)(py:Rep X.K H u y):Wb A s a b (!dq x y):=by
 have IH: ∀ {n:Nat} {x y:D} {v u:V} {a b:NG} {A:OL},fq x<n->A.units+fq x<PY->RelV v a->RelV u b->Rep X.K H v x->Rep X.K H u y->QF A s a b (dq x y):=λ{n x y v u a b A}=>oM I n
 unfold dq;cases px with
 |non=>
  cases ra;cases py with
  |non=>
   cases rb;exact Y4
  |bl=>
   cases rb;exact Y5 _
  |int=>
   obtain⟨t2,rfl⟩:=rb;exact ZD _ _
  |str=>
   obtain⟨t2,rfl⟩:=rb;exact ZE _ _
  | @tup a2 _ _ h2 r2=>
    cases rb;obtain⟨its2,l2,_⟩:=b8 I h2 r2;exact Yw l2 (by omega)
  | @lst a2 _ _ h2 r2=>
    cases rb;obtain⟨its2,l2,_⟩:=aJ I (SqL.of h2) r2;exact Uz l2 (by omega)
  | @scr a2 _ _ h2 r2=>
    cases rb;obtain⟨its2,l2,_⟩:=aJ I h2.seq r2;exact Uz l2 (by omega)
 |bl=>
  cases ra;cases py with
  |non=>
   cases rb;exact Y6 _
  |bl=>
   cases rb;exact Y7 _ _
  |int=>
   obtain⟨t2,rfl⟩:=rb;exact ZF _ _ _
  |str=>
   obtain⟨t2,rfl⟩:=rb;exact ZG _ _ _
  | @tup a2 _ _ h2 r2=>
    cases rb;obtain⟨its2,l2,_⟩:=b8 I h2 r2;exact Yx _ l2 (by omega)
  | @lst a2 _ _ h2 r2=>
    cases rb;obtain⟨its2,l2,_⟩:=aJ I (SqL.of h2) r2;exact UA _ l2 (by omega)
  | @scr a2 _ _ h2 r2=>
    cases rb;obtain⟨its2,l2,_⟩:=aJ I h2.seq r2;exact UA _ l2 (by omega)
 |int=>
  obtain⟨t1,rfl⟩:=ra;cases py with
  |non=>
   cases rb;exact ZH _ _
  |bl=>
   cases rb;exact ZI _ _ _
  |int=>
   obtain⟨t2,rfl⟩:=rb;exact jay _ _ _ _
  |str=>
   obtain⟨t2,rfl⟩:=rb;exact jaz _ _ _ _
  | @tup a2 _ _ h2 r2=>
    cases rb;obtain⟨its2,l2,_⟩:=b8 I h2 r2;exact Y8 _ _ l2 (by omega)
  | @lst a2 _ _ h2 r2=>
    cases rb;obtain⟨its2,l2,_⟩:=aJ I (SqL.of h2) r2;exact UU _ _ l2 (by omega)
  | @scr a2 _ _ h2 r2=>
    cases rb;obtain⟨its2,l2,_⟩:=aJ I h2.seq r2;exact UU _ _ l2 (by omega)
 |str=>
  obtain⟨t1,rfl⟩:=ra;cases py with
  |non=>
   cases rb;exact ZJ _ _
  |bl=>
   cases rb;exact ZK _ _ _
  |int=>
   obtain⟨t2,rfl⟩:=rb;exact jaA _ _ _ _
  |str=>
   obtain⟨t2,rfl⟩:=rb;exact jaB _ _ _ _
  | @tup a2 _ _ h2 r2=>
    cases rb;obtain⟨its2,l2,_⟩:=b8 I h2 r2;exact Y9 _ _ l2 (by omega)
  | @lst a2 _ _ h2 r2=>
    cases rb;obtain⟨its2,l2,_⟩:=aJ I (SqL.of h2) r2;exact UV _ _ l2 (by omega)
  | @scr a2 _ _ h2 r2=>
    cases rb;obtain⟨its2,l2,_⟩:=aJ I h2.seq r2;exact UV _ _ l2 (by omega)
 | @tup a1 _ _ h1 r1=>
   cases ra;obtain⟨its,l1,_⟩:=b8 I h1 r1;cases py with
   |non=>
    cases rb;exact Yy l1 (by omega)
   |bl=>
    cases rb;exact Yz _ l1 (by omega)
   |int=>
    obtain⟨t2,rfl⟩:=rb;exact Za _ _ l1 (by omega)
   |str=>
    obtain⟨t2,rfl⟩:=rb;exact Zb _ _ l1 (by omega)
   | @tup a2 _ _ h2 r2=>
     cases rb;obtain⟨its2,l2,_⟩:=b8 I h2 r2;exact(yY I IH (O9 _) (by unfold fq at hu;omega) h1 r1 h2 r2).2
   | @lst a2 _ _ h2 r2=>
     cases rb;obtain⟨its2,l2,_⟩:=aJ I (SqL.of h2) r2;exact Ug l1 l2 (by omega)
   | @scr a2 _ _ h2 r2=>
     cases rb;obtain⟨its2,l2,_⟩:=aJ I h2.seq r2;exact Ug l1 l2 (by omega)
 | @scr a1 _ _ h1 r1=>exact absurd hu (by unfold fq;omega)
 | @lst a1 _ _ h1 r1=>
   cases ra;obtain⟨its,l1,_⟩:=aJ I (SqL.of h1) r1;cases py with
   |non=>
    cases rb;exact Zc l1 (by omega)
   |bl=>
    cases rb;exact Zd _ l1 (by omega)
   |int=>
    obtain⟨t2,rfl⟩:=rb;exact ZL _ _ l1 (by omega)
   |str=>
    obtain⟨t2,rfl⟩:=rb;exact ZM _ _ l1 (by omega)
   | @tup a2 _ _ h2 r2=>
     cases rb;obtain⟨its2,l2,_⟩:=b8 I h2 r2;exact YA l1 l2 (by omega)
   | @lst a2 _ _ h2 r2=>
     cases rb;obtain⟨its2,l2,_⟩:=aJ I (SqL.of h2) r2;exact(kv I IH (O9 _) (by unfold fq at hu;omega) (SqL.of h1) r1 (SqL.of h2) r2).2
   | @scr a2 _ _ h2 r2=>
     cases rb;obtain⟨its2,l2,_⟩:=aJ I h2.seq r2;exact(kv I IH (O9 _) (by unfold fq at hu;omega) (SqL.of h1) r1 h2.seq r2).2
end
theorem Rep1.full {K:NU}{H:Hp}{hid:bN}{v:V}{d:D}(h:Rep1 K H (vw H hid) v d):Rep K H v d:=by
 rcases h with h|⟨a,xs,ds,rfl,rfl,h1,h2⟩
 ·exact h.mono (di _ _)
 ·exact .lst h1 (h2.mono (di _ _))
def Kn(K:NU):R2:=λv u H Q=> ∃x y,Rep K H v x/\Rep K H u y/\fq x<=32/\Q (.bl (dq x y)) H
def Ly(K:NU):R2:=λv u H Q=> ∃x y,Rep K H v x/\Rep K H u y/\fq x<=32/\Q (.bl (!dq x y)) H
theorem lF {X:Cx}(hu:X.A.units+64<PY):lv X (Px .Eq) (Kn X.K):=by
 intro ah s σ H x y v u Q I rx ry h;obtain⟨dx,dy,p1,p2,hd,q⟩:=h;exact Jj I (by omega) (by omega) rx ry p1 p2 X.prog X.w _ _ ⟨.bl _,H,I,rfl,q⟩
theorem jC {X:Cx}(hu:X.A.units+64<PY):lv X (Px .NotEq) (Ly X.K):=by
 intro ah s σ H x y v u Q I rx ry h;obtain⟨dx,dy,p1,p2,hd,q⟩:=h;exact Ci I (by omega) (by omega) rx ry p1 p2 X.prog X.w _ _ ⟨.bl _,H,I,rfl,q⟩
def pJ:D->D->Option D:=λx y=>if fq x<=32 then some (.bl (dq x y)) else none
def l9:D->D->Option D:=λx y=>if fq x<=32 then some (.bl (!dq x y)) else none
theorem qa {K:NU}:oY K .s (Kn K) pJ:=by
 intro H hid v u x y d Q hf h r1 r2 q;unfold pJ at h;split at h
 ·cases h;exact⟨x,y,r1.full,r2.full, ‹_›,q _ H (Same.refl _) .bl⟩
 ·cases h
theorem m7 {K:NU}:oY K .s (Ly K) l9:=by
 intro H hid v u x y d Q hf h r1 r2 q;unfold l9 at h;split at h
 ·cases h;exact⟨x,y,r1.full,r2.full, ‹_›,q _ H (Same.refl _) .bl⟩
 ·cases h
theorem pi {X:Cx}{ah:List (Addr×Obj)}{σ:St}{H:Hp}{s:NH}(I:Inv X ah σ H s){x:D}{v:V}{a:NG}{A:OL}(hx:Rep X.K H v x)(ra:RelV v a): ∀ {ds:List D} {xs:List V} {its:List NG},Reps X.K H xs ds->Vals xs its->A.units+cE ds<PY->
 ∃e:NG->Bool,(∀y,y∈its->QF A s y a (e y))/\its.any e=ds.any (λd=>dq d x):=by
 intro ds xs its r rv hu
 classical
 let e:NG->Bool:=λy=>if h: ∃(d:D) (u:V),RelV u y/\Rep X.K H u d then dq h.choose x else false
 have key: ∀y u d,RelV u y->Rep X.K H u d->e y=dq d x:=λy u d h1 h2=>by
  have hex: ∃(d:D) (u:V),RelV u y/\Rep X.K H u d:=⟨d,u,h1,h2⟩
  show(if h: ∃(d:D) (u:V),RelV u y/\Rep X.K H u d then dq h.choose x else false)=dq d x;rw[dif_pos hex];obtain⟨u',s1,s2⟩:=hex.choose_spec;have eu:u'=u:=s1.inj h1;rw[eu] at s2;exact Rep.eqv I s2 h2 x
 refine⟨e,?_,?_⟩
 ·induction rv generalizing ds with
  |nil=>intro y hy;cases hy
  |cons r1 t ih=>
   cases r with
   |cons p1 pt=>
    rename_i d ds;intro y hy;have hm:fq d<=cE (d::ds):=nr (i:=0) rfl
    have hm2:cE ds<=cE (d::ds):=by conv=>rhs;unfold cE
                                   exact Uf _ _
    rcases Oc.mp hy with rfl|hy
    ·rw[key _ _ _ r1 p1];exact oM I (fq d+1) (O9 _) (by omega) r1 ra p1 hx
    ·exact ih pt (by omega) y hy
 ·induction rv generalizing ds with
  |nil=>cases r;rfl
  |cons r1 t ih=>
   cases r with
   |cons p1 pt=>
    rename_i d ds;have hm2:cE ds<=cE (d::ds):=by conv=>rhs;unfold cE
                                                 exact Uf _ _
    rw[QY,QY,key _ _ _ r1 p1,ih pt (by omega)]
def IJ(K:NU)(neg:Bool):R2:=λv u H Q=> ∃x ds a xs,Rep K H v x/\u=.ref a/\(SqL K H a xs\/SqT K H a xs)/\Reps K H xs ds/\cE ds<=32/\Q (.bl (if neg then !ds.any (λd=>dq d x) else ds.any λd=>dq d x)) H
theorem l7 {X:Cx}(hu:X.A.units+64<PY):lv X (Px .In) (IJ X.K false):=by
 intro ah s σ H v w a b Q I rx ry h;obtain⟨x,ds,p,xs,hx,rfl,hq,r,hd,q⟩:=h;cases ry;rcases hq with hq|hq
 ·obtain⟨its,rv,pl,hz⟩:=I.list hq;obtain⟨e,h1,h2⟩:=pi (A:=X.A.in1) I hx rx r rv (by rw[eM];omega);refine SeqAt.in_listAt e pl.isList (λy hy=>h1 y (by simpa using hy)) ⟨.bl _,H,I,rfl,?_⟩;rw[show its.toArray.any e=its.any e by simp,h2];exact q
 ·obtain⟨its,rv,pl,hz⟩:=I.tuple hq;obtain⟨e,h1,h2⟩:=pi (A:=X.A.in1) I hx rx r rv (by rw[eM];omega);refine SeqAt.in_tupleAt e pl (λy hy=>h1 y (by simpa using hy)) ⟨.bl _,H,I,rfl,?_⟩;rw[show its.toArray.any e=its.any e by simp,h2];exact q
theorem sG {X:Cx}(hu:X.A.units+64<PY):lv X (Px .NotIn) (IJ X.K true):=by
 intro ah s σ H v w a b Q I rx ry h;obtain⟨x,ds,p,xs,hx,rfl,hq,r,hd,q⟩:=h;cases ry;rcases hq with hq|hq
 ·obtain⟨its,rv,pl,hz⟩:=I.list hq;obtain⟨e,h1,h2⟩:=pi (A:=X.A.in1) I hx rx r rv (by rw[eM];omega);refine SeqAt.notIn_listAt e pl.isList (λy hy=>h1 y (by simpa using hy)) ⟨.bl _,H,I,rfl,?_⟩;rw[show its.toArray.any e=its.any e by simp,h2];exact q
 ·obtain⟨its,rv,pl,hz⟩:=I.tuple hq;obtain⟨e,h1,h2⟩:=pi (A:=X.A.in1) I hx rx r rv (by rw[eM];omega);refine SeqAt.notIn_tupleAt e pl (λy hy=>h1 y (by simpa using hy)) ⟨.bl _,H,I,rfl,?_⟩;rw[show its.toArray.any e=its.any e by simp,h2];exact q
def pY:D->Option (List D)
 | .lst ds=>some ds
 | .tup ds=>some ds
 |_=>none
def kR(neg:Bool):D->D->Option D:=λx y=>match pY y with
 |some ds=>if cE ds<=32 then some (.bl (if neg then !ds.any (λd=>dq d x) else ds.any λd=>dq d x)) else none
 |none=>none
theorem nw {K:NU}(neg:Bool):oY K .s (IJ K neg) (kR neg):=by
 intro H hid v u x y d Q hf h r1 r2 q;unfold kR at h;split at h
 ·split at h
  ·rename_i ds e _
   cases h;cases y with
   |lst zs=>
    cases e;obtain⟨a,xs,rfl,h1,h2⟩:=r2.lst;exact⟨x,_,a,xs,r1.full,rfl,.inl h1,h2.mono (di _ _), ‹_›,q _ H (Same.refl _) .bl⟩
   |tup zs=>
    cases e;obtain⟨a,xs,rfl,_,h1,h2⟩:=r2.tup;exact⟨x,_,a,xs,r1.full,rfl,.inr h1,h2.mono (di _ _), ‹_›,q _ H (Same.refl _) .bl⟩
   |_=>cases e
  ·cases h
 ·cases h
section
variable {X:Cx}{c:Ct}{e o:Expr}{k:Kd}{f g:FE}{pos p p2:Pos}
def iH:List D->Option (List Bool)
 | []=>some []
 | .bl b::r=>(iH r).map (b:: ·)
 |_=>none
theorem we: ∀ {ds:List D} {bs:List Bool} {i:Nat} {d:D},iH ds=some bs->ds[i]? =some d-> ∃b,d=.bl b/\bs[i]? =some b
 | [],_,_,_,_,h=>by simp at h
 |x::r,bs,i,d,h,e=>by
  cases x with
  |bl b=>
   unfold iH at h;cases e1:iH r with
   |none=>rw[e1] at h;cases h
   |some rs=>
    rw[e1] at h;cases h;cases i with
    |zero=>simp at e;subst e;exact⟨b,rfl,rfl⟩
    |succ i=>
     obtain⟨b',h1,h2⟩:=we (i:=i) e1 (by simpa using e);exact⟨b',h1,by simpa using h2⟩
  |_=>cases h
theorem vF: ∀ {ds:List D} {bs:List Bool},iH ds=some bs->ds.length=bs.length
 | [],_,h=>by cases h;rfl
 |x::r,bs,h=>by
  cases x with
  |bl b=>
   unfold iH at h;cases e1:iH r with
   |none=>rw[e1] at h;cases h
   |some rs=>rw[e1] at h;cases h;simp[vF e1]
  |_=>cases h
theorem BT(bs:List Bool):(ND bs.length).any (λi=>bs.getD i false)=bs.any id:=by
 induction bs with
 |nil=>rfl
 |cons b bs ih=>
  rw[On,Qx,QY,UB,QY];rw[show((λi=>(b::bs).getD i false)∘QE)=λi=>bs.getD i false by funext i;simp[OJ],ih];rfl
theorem yy(bs:List Bool):(ND bs.length).all (λi=>bs.getD i false)=bs.all id:=by
 induction bs with
 |nil=>rfl
 |cons b bs ih=>
  rw[On,Qx,T6,Uy,T6];rw[show((λi=>(b::bs).getD i false)∘QE)=λi=>bs.getD i false by funext i;simp[OJ],ih];rfl
theorem p9 {ah:List (Addr×Obj)}{σ:St}{H:Hp}{s:NH}{a:Addr}{xs:List V}{ds:List D}{bs:List Bool}(I:Inv X ah σ H s)(h1:SqL X.K H a xs)(h2:Reps X.K H xs ds)(hb:iH ds=some bs)(hc:X.calm=true){E:NG->NH->Prop}{R:NG->NH->Prop}
 (hR: ∀(J:Addr) (s2:NH) (its:Array NG) (hl:its.size=bs.length),Walks X.prog X.w X.A.in1 J [J,a] [J] its.size (λi v=>its[i]? =some v) (λi h=>h.IsListIter J a i/\h.IsList a its)->s2.heap.IsListIter J a 0->s2.heap.IsList a its->TruthOf X.prog X.w X.A.in1 (λi v=>its[i]? =some v) (λi=>bs.getD i false)->
   (∀h' tk,(∀b o,b∉ [J]->s2.heap.get? b=some o->h'.get? b=some o)->Inv X ah σ H {s2 with heap:=h',toks:=tk})->R (.ref J) s2):N1 (model X.prog X.w) X.A.in1 (U3 (.ref a)) R E s:=by
 obtain⟨its,rv,pl,hz⟩:=I.list h1;have l1:=rv.length;have l2:=h2.length;have l3:=vF hb;have hlt:a<s.heap.objs.size:=by obtain⟨o,n,e,_⟩:=pl;exact N0 e
 refine TM pl.isList (hR s.heap.objs.size _ its.toArray (by simp;omega) (Walks.list (A:=X.A.in1) (I.ok.hd hc) _ a (Oz hlt) its.toArray) ⟨_,NZ _ rfl,rfl,rfl⟩ ?_ ?_ ?_)
 ·obtain⟨o,ho,q⟩:=pl.isList;exact⟨o,NM _ ho,q⟩
 ·intro i v s' Q E hv hq;have hv':its[i]? =some v:=by simpa using hv
  have hi:=(NY.mp hv').1;have ex:xs[i]? =some xs[i]:=NL (by omega);obtain⟨u,e1,r1⟩:=rv.get ex;rw[hv'] at e1;cases e1;obtain⟨d,e2,r2⟩:=h2.get' ex;obtain⟨b,rfl,e3⟩:=we hb e2;rcases hx:xs[i] with _|_|_|_|_|_|_|_<;>rw[hx] at r1 r2<;>cases r2
  cases r1;have:bs.getD i false=b:=by simp[OJ,e3]
  dsimp only at hq;rw[this] at hq;exact Pl hq
 ·intro h' tk hk;refine I.kept λb o e=>hk b o (λhm=>?_) (NM _ e)
  have:b=s.heap.objs.size:=by simpa using hm
  exact absurd (this▸N0 e) (QV _)
theorem pV(hc:X.calm=true):dB X (.builtin "any") (λxs H Q=> ∃a ys ds bs,xs=[.ref a]/\SqL X.K H a ys/\Reps X.K H ys ds/\iH ds=some bs/\Q (.bl (bs.any id)) H):=by
 intro ah s σ H xs us Q I r h;obtain⟨a,ys,ds,bs,rfl,h1,h2,h3,q⟩:=h;obtain⟨u,rfl,rx⟩:=jN r;cases rx;refine call_any_walk (p9 I h1 h2 h3 hc λJ s2 its hl W st1 st2 tr kp=>?_);refine⟨J,_,_,_,_,_,_,rfl,W,⟨st1,st2⟩,tr,λh' tk hk=>⟨.bl _,H,kp h' tk hk,rfl,?_⟩⟩;rw[hl,BT];exact q
theorem CH(hc:X.calm=true):dB X (.builtin "all") (λxs H Q=> ∃a ys ds bs,xs=[.ref a]/\SqL X.K H a ys/\Reps X.K H ys ds/\iH ds=some bs/\Q (.bl (bs.all id)) H):=by
 intro ah s σ H xs us Q I r h;obtain⟨a,ys,ds,bs,rfl,h1,h2,h3,q⟩:=h;obtain⟨u,rfl,rx⟩:=jN r;cases rx;refine call_all_walk (p9 I h1 h2 h3 hc λJ s2 its hl W st1 st2 tr kp=>?_);refine⟨J,_,_,_,_,_,_,rfl,W,⟨st1,st2⟩,tr,λh' tk hk=>⟨.bl _,H,kp h' tk hk,rfl,?_⟩⟩;rw[hl,yy];exact q
def vS:List D->Option D
 | [.lst ds]=>(iH ds).map λbs=>.bl (bs.any id)
 |_=>none
def Fa:List D->Option D
 | [.lst ds]=>(iH ds).map λbs=>.bl (bs.all id)
 |_=>none
theorem x6:gc X.K .s (λxs H Q=> ∃a ys ds bs,xs=[.ref a]/\SqL X.K H a ys/\Reps X.K H ys ds/\iH ds=some bs/\Q (.bl (bs.any id)) H) vS:=by
 intro H hid vs ds d Q hf h r q;unfold vS at h;split at h
 ·rename_i zs
  cases e1:iH zs with
  |none=>rw[e1] at h;cases h
  |some bs=>
   rw[e1] at h;cases h;obtain⟨x,rfl,r1⟩:=Reps1.one r;obtain⟨a,xs,rfl,h1,h2⟩:=r1.lst;exact⟨a,xs,zs,bs,rfl,h1,h2.mono (di _ _),e1,q _ H (Same.refl _) .bl⟩
 ·cases h
theorem Ja:gc X.K .s (λxs H Q=> ∃a ys ds bs,xs=[.ref a]/\SqL X.K H a ys/\Reps X.K H ys ds/\iH ds=some bs/\Q (.bl (bs.all id)) H) Fa:=by
 intro H hid vs ds d Q hf h r q;unfold Fa at h;split at h
 ·rename_i zs
  cases e1:iH zs with
  |none=>rw[e1] at h;cases h
  |some bs=>
   rw[e1] at h;cases h;obtain⟨x,rfl,r1⟩:=Reps1.one r;obtain⟨a,xs,rfl,h1,h2⟩:=r1.lst;exact⟨a,xs,zs,bs,rfl,h1,h2.mono (di _ _),e1,q _ H (Same.refl _) .bl⟩
 ·cases h
def fR:List D->Option (List Int)
 | []=>some []
 | .int b::r=>(fR r).map (b:: ·)
 |_=>none
theorem iL: ∀ {ds:List D} {ns:List Int},fR ds=some ns->ds=ns.map D.int
 | [],_,h=>by cases h;rfl
 |x::r,bs,h=>by
  cases x with
  |int b=>
   unfold fR at h;cases e1:fR r with
   |none=>rw[e1] at h;cases h
   |some rs=>rw[e1] at h;cases h;simp[iL e1]
  |_=>cases h
theorem k8 {K:NU}{F:Hp}: ∀ {ns:List Int} {xs:List V},Reps K F xs (ns.map D.int)->xs=ns.map V.int
 | [],_,.nil=>rfl
 |n::ns,_,.cons r t=>by cases r;rw[k8 t];rfl
def oh:List Int->Int
 | []=>0
 |a::r=>r.foldl (λm b=>if b<m then b else m) a
theorem wr(r:List Int): ∀a:Int,r.foldl (λm b=>if b<m then b else m) a∈a::r/\ ∀x∈a::r,r.foldl (λm b=>if b<m then b else m) a<=x:=by
 induction r with
 |nil=>intro a;simp
 |cons b r ih=>
  intro a;rw[RM];obtain⟨h1,h2⟩:=ih (if b<a then b else a);have h3:=h2 (if b<a then b else a) Oe;refine⟨?_,λx hx=>?_⟩
  ·rcases Oc.mp h1 with e|e
   ·rw[e];split<;>simp
   ·exact N3 _ (N3 _ e)
  ·rcases Oc.mp hx with rfl|hx
   ·split at h3<;>split<;>omega
   ·rcases Oc.mp hx with rfl|hx
    ·split at h3<;>split<;>omega
    ·exact h2 x (N3 _ hx)
theorem E6: ∀(ns:List Int),ns≠[]->oh ns∈ns/\ ∀a∈ns,oh ns<=a
 | [],h=>absurd rfl h
 |a::r,_=>wr r a
theorem BW {ns:List Int}{m:Int}(h1:m∈ns)(h2: ∀a∈ns,m<=a):m=oh ns:=by
 obtain⟨g1,g2⟩:=E6 ns (by intro e;subst e;simp at h1);have:=h2 _ g1;have:=g2 _ h1;omega
theorem Bg(hc:X.calm=true):dB X (.builtin "min") (λxs H Q=> ∃a ns,xs=[.ref a]/\SqL X.K H a (ns.map V.int)/\ns≠[]/\Q (.int (oh ns)) H):=by
 intro ah s σ H xs us Q I r h;obtain⟨a,ns,rfl,h1,h2,q⟩:=h;obtain⟨u,rfl,rx⟩:=jN r;cases rx;obtain⟨its,rv,pl,hz⟩:=I.list h1;have hi:Vk its ns:=yB rv;obtain⟨xs,e⟩:=hi.allInts.items;have hns:ns=xs.toList.map (·.1):=by rw[<-hi.numsOf,<-nums_intItems,<-e]
 have hsz:0<xs.size:=by
  have:0<ns.length:=by cases ns with|nil=>exact absurd rfl h2|cons=>simp
  rw[hns,NK,N4] at this;exact this
 have hl:=pl.isList;rw[e] at hl;refine min_intList (I.ok.hd hc) hl hsz λv h' tk hv hk=>?_
 obtain⟨t,rfl⟩:=intItems_at hv;obtain⟨g1,g2⟩:=argBest_lt (numAt xs) (xs.size-1);have em:numAt xs (argBest (λi j=>decide (numAt xs i<numAt xs j)) (xs.size-1))=oh ns:=by
  refine BW ?_ λa ha=>?_
  ·rw[hns,numAt_eq];exact getD_mem (by rw[NK,N4];omega)
  ·rw[hns] at ha;obtain⟨j,hj,rfl⟩:=mem_getD ha;rw[NK,N4] at hj;rw[<-numAt_eq];exact g2 j (by omega)
 exact⟨.int (oh ns),H,I.kept hk,⟨t,by rw[<-em]⟩,q⟩
def sv:List D->Option D
 | [.lst ds]=>(fR ds).bind λns=>if ns.isEmpty then none else some (.int (oh ns))
 |_=>none
theorem G7:gc X.K .s (λxs H Q=> ∃a ns,xs=[.ref a]/\SqL X.K H a (ns.map V.int)/\ns≠[]/\Q (.int (oh ns)) H) sv:=by
 intro H hid vs ds d Q hf h r q;unfold sv at h;split at h
 ·rename_i zs
  cases e1:fR zs with
  |none=>rw[e1] at h;cases h
  |some ns=>
   rw[e1] at h;have h:(if ns.isEmpty then none else some (D.int (oh ns)))=some d:=h;split at h
   ·cases h
   ·cases h;obtain⟨x,rfl,r1⟩:=Reps1.one r;obtain⟨a,xs,rfl,h1,h2⟩:=r1.lst;rw[iL e1] at h2;rw[k8 h2] at h1;exact⟨a,ns,rfl,h1,(by intro e;subst e;simp at*),q _ H (Same.refl _) .int⟩
 ·cases h
end
end L2
namespace PySem.SeqAt
open AutoSeq1 (wpAny_loadPart')
open MeetsSeq MeetsSeq2 MeetsSeq3 SeqRoads2
theorem pd {M:ZZ}{A:OL}{E:NG->NH->Prop}{s:NH}{β:Type}(f:Nat->β->Sem (ForInStep β))(I:List Nat->β->NH->Prop)(Q:β->NH->Prop)
 (turn: ∀x rest b s,I (x::rest) b s->N1 M A (f x b) (λr s'=>match r with| .yield b'=>I rest b' s'| .done b'=>Q b' s') E s)
 (fin: ∀b s,I [] b s->Q b s) (a b:Nat) (c:β) (h:I (Q6 a (b-a)) c s):N1 M A (forIn [a:b] c f) Q E s:=by
 rw[Std.Legacy.Range.forIn_eq_forIn_range'];have hsz:([a:b]:Std.Legacy.Range).size=b-a:=by simp[Std.Legacy.Range.size]
 show N1 M A (forIn (Q6 a ([a:b]:Std.Legacy.Range).size 1) c f) Q E s;rw[hsz];exact SA f I Q turn fin _ c h
theorem tuple_indexAt(l:Addr)(items:Array NG)(n:Nat)(dd:Option Addr)(sl:Array (Option NG))(x:NG)(e:NG->Bool)(j:Nat)(hj:j<items.size)(hit:e items[j]=true)(hno: ∀m (hm:m<items.size),m<j->e items[m]=false):
 Meets (Rc.«tuple.index» ⟨[.ref l,x],[]⟩)
  (λA R s=>s.heap.get? l=some {cls:=.type "tuple",dict:=dd,data:=.seq items n,slots:=sl}/\(∀y,y∈items->EqAt A.in1 s y x (e y))/\R (.ok (.ret (.int j s.toks))) {s with toks:=s.toks+1}):=
 .of_wp λprog w A R s h=>by
  obtain⟨hp,g,d,tk,os⟩:=s;obtain⟨hl,he,h⟩:=h
  wp_walk using QN hl,pd _ (λrest b s'=>b.1=none/\s'=⟨hp,g,d,tk,os⟩/\ ∃i,i<=j/\rest=Q6 i (items.size-i)) _
  case turn=>
   rintro y rest b s' ⟨hb,rfl,i,hij,hz⟩;have lt:i<items.size:=by omega
   have er:Q6 i (items.size-i)=i::Q6 (i+1) (items.size- (i+1)):=by
    rw[show items.size-i=(items.size- (i+1))+1 by omega];rfl
   rw[er] at hz;injection hz with e1 e2
   subst e1 e2;rw[show items[y]? =some items[y] by simp[lt]];refine NE (he _ (Wc lt) prog w _ _ ?_)
   by_cases ej:y=j
   ·subst ej;rw[hit]
    wp_walk
    exact⟨_,rfl,h⟩
   ·rw[hno y lt (by omega)]
    wp_walk
    exact⟨rfl,rfl,y+1,by omega,rfl⟩
  case fin=>
   rintro⟨b1,b2⟩ s' ⟨hb,rfl,i,hij,hz⟩;have:=congrArg Rx hz;simp at this;omega
  case h=>
   exact⟨rfl,rfl,0,Pe _,by simp⟩
end PySem.SeqAt
namespace L2
open PySem PySem.Spec PyProof.Rows
def o4(ds:List D)(x:D):Option Nat:=ds.findIdx? λd=>dq d x
theorem FY {X:Cx}{ah:List (Addr×Obj)}{σ:St}{H:Hp}{s:NH}(I:Inv X ah σ H s){x:D}{v:V}{a:NG}{A:OL}(hx:Rep X.K H v x)(ra:RelV v a): ∀ {ds:List D} {xs:List V} {its:List NG},Reps X.K H xs ds->Vals xs its->A.units+cE ds<PY->
 ∃e:NG->Bool,(∀y,y∈its->QF A s y a (e y))/\ ∀(j:Nat) (hj:j<its.length) (d:D),ds[j]? =some d->e its[j]=dq d x:=by
 intro ds xs its r rv hu
 classical
 let e:NG->Bool:=λy=>if h: ∃(d:D) (u:V),RelV u y/\Rep X.K H u d then dq h.choose x else false
 have key: ∀y u d,RelV u y->Rep X.K H u d->e y=dq d x:=λy u d h1 h2=>by
  have hex: ∃(d:D) (u:V),RelV u y/\Rep X.K H u d:=⟨d,u,h1,h2⟩
  show(if h: ∃(d:D) (u:V),RelV u y/\Rep X.K H u d then dq h.choose x else false)=dq d x;rw[dif_pos hex];obtain⟨u',s1,s2⟩:=hex.choose_spec;have eu:u'=u:=s1.inj h1;rw[eu] at s2;exact Rep.eqv I s2 h2 x
 have l1:=rv.length;have l2:=r.length;have at': ∀(j:Nat) (hj:j<its.length),∃u d,ds[j]? =some d/\RelV u its[j]/\Rep X.K H u d:=λj hj=>by
  have ex:xs[j]? =some xs[j]:=NL (by omega);obtain⟨w,e1,r1⟩:=rv.get ex;obtain⟨d,e2,r2⟩:=r.get' ex;have:its[j]=w:=by rw[NL hj] at e1;exact OS e1
  rw[this];exact⟨_,d,e2,r1,r2⟩
 refine⟨e,λy hy=>?_,λj hj d hd=>?_⟩
 ·obtain⟨j,hj,rfl⟩:=List.mem_iff_getElem.mp hy;obtain⟨u,d,e1,r1,r2⟩:=at' j hj;rw[key _ _ _ r1 r2];have:=nr e1;exact oM I (fq d+1) (O9 _) (by omega) r1 ra r2 hx
 ·obtain⟨u,d',e1,r1,r2⟩:=at' j hj;rw[hd] at e1;cases e1;exact key _ _ _ r1 r2
section
variable {X:Cx}{c:Ct}{e o:Expr}{k k2:Kd}{f g:FE}{pos p p2 apos:Pos}
theorem wm(hu:X.A.units+64<PY):LZ X "tuple.index" (λv vs H Q=> ∃a xs ds x y j,v=.ref a/\vs=[x]/\SqT X.K H a xs/\Reps X.K H xs ds/\Rep X.K H x y/\cE ds<=32/\o4 ds y=some j/\Q (.int j) H):=by
 intro ah s σ H v vs u us Q I rv rs h;obtain⟨a,xs,ds,x,y,j,rfl,rfl,h1,h2,h3,h4,h5,q⟩:=h;cases rv;obtain⟨w,rfl,rw'⟩:=jN rs;obtain⟨its,r,pl,hz⟩:=I.tuple h1;have l1:=r.length;have l2:=h2.length;obtain⟨e,g1,g2⟩:=FY (A:=X.A.in1.in1) I h3 rw' h2 r (by rw[eM,eM];omega);unfold o4 at h5;rw[List.findIdx?_eq_some_iff_getElem] at h5;obtain⟨hj,hp,hno⟩:=h5;obtain⟨⟨cls,dd,data,sl⟩,ho,hc,n,hd⟩:=id pl;simp only at hc hd;subst hc hd;have hj':j<its.length:=by omega
 have gt: ∀m (hm:m<its.length) (hm2:m<ds.length),e its[m]=dq ds[m] y:=λm hm hm2=>g2 m hm _ (NL hm2)
 refine Xq T7 ⟨_,ho,rfl⟩ PySem.F.entry_tuple_index (PySem.F.args_tuple_index_2 _ _) (SeqAt.tuple_indexAt a its.toArray n dd sl w e j (by simpa using hj') ?_ ?_) ⟨ho,?_,?_⟩
 ·simp only[Va];rw[gt j hj' hj];exact hp
 ·intro m hm hmj;simp only[Va];rw[gt m (by simpa using hm) (by omega)];have:=hno m hmj;simpa using this
 ·intro z hz';exact SeqAt.EqAt.of_in1 (g1 z (by simpa using hz'))
 ·exact⟨.int j,H,I.tok _,⟨_,rfl⟩,q⟩
end
section
variable {X:Cx}{c:Ct}{e o:Expr}{k k2:Kd}{f g:FE}{pos p p2 apos:Pos}
def mP:D->D->Option D:=λt x=>match t with
 | .tup ds=>if cE ds<=32 then(o4 ds x).map λj=>.int j else none
 |_=>none
theorem oQ(hu:X.A.units+64<PY)(ho:DP X c k o f)(he:DP X c k2 e g)
 (hbase:SL o "index" X.env (eval o X.env)=eval o X.env:=by rfl)
 (hfew:((Ql pos (N8 [e] X.env)).all (λx=> !x.1)&&(V8 pos (TQ [] X.env)).all (λx=>x.1.isSome)
   &&decide (([e]:List Expr).length+([]:List S9).length+(if([]:List S9).isEmpty then 0 else 1)<30))=true:=by rfl)
 (hline:(apos.endLine==pos.line)=true:=by rfl) (hs:N8 [e] X.env=(false,eval e X.env)::N8 [] X.env:=by rfl) (hplain:(Ql pos (N8 [] X.env)).any (·.1)=false:=by rfl):
 DP X c .s (.Call (.Attribute o "index" apos) [e] [] pos) (aw mP f g):=λhid ρ=>
 PE.imp (Af PySem.F.plainAttrs_tuple T7 PySem.F.type_tuple_index (wm hu) (ho hid ρ) (eQ (he hid ρ) iU hs) hbase hfew hline hs hplain) λσ H Q hq_=>by
  obtain⟨sr,d,hd,q⟩:=hq_;obtain⟨x,y,e1,e2,e3⟩:=wl hd;unfold mP at e3;split at e3
  ·split at e3
   ·rename_i ds _
    cases e4:o4 ds y with
    |none=>rw[e4] at e3;cases e3
    |some j=>
     rw[e4] at e3;cases e3;refine⟨sr,_,e1,λv H1 s1 r1=>?_⟩;have b1:=RK.b k r1 λa n=>sr.fresh n
     obtain⟨a,xs,rfl,t1,t2,t3⟩:=b1.tup;refine⟨.inr (.inl ⟨rfl,xs,t2⟩),sr.ext s1,y,e2,λu H2 s2 r2=>?_⟩;have b2:=RK.b k2 r2 λa n=>(sr.ext s1).fresh n
     exact⟨a,xs,ds,u,y,j,rfl,rfl,Same.seqT s2 t2,(t3.mono (aY s2)).mono (di _ _),b2.full, ‹_›,e4,q _ H2 (s1.trans s2) .int⟩
   ·cases e3
  ·cases e3
theorem Bl:dB X (.type "range") (λxs H Q=> ∃j:Int,xs=[.int j]/\ ∀p,H p=none->Q (.ref p) (cm H p (.rng 0 j))):=by
 intro ah s σ H xs us Q I r h;obtain⟨j,rfl,q⟩:=h;obtain⟨u,rfl,t,rfl⟩:=jN r;refine call_range_1 ⟨.ref s.heap.objs.size,_,I.laid (λb o e=>NM _ e) (NT _) ?_,rfl,q _ (I.hok.fresh (NT _))⟩;exact⟨_,_,_,NZ _ rfl⟩
theorem KF(lo:Int)(n:Nat): ∀ {K:NU} {F:Hp},Reps K F ((ND n).map λ(i:Nat)=>V.int (lo+i)) (BC lo n):=by
 intro K F;unfold BC;generalize ND n=l
 induction l with
 |nil=>exact .nil
 |cons a l ih=>exact .cons .int ih
theorem rC(hc:X.calm=true):dB X (.type "list") (λxs H Q=> ∃p lo hi,xs=[.ref p]/\H p=some (.rng lo hi)/\ -(2^30)<=lo/\lo<=2^30/\ -(2^30)<=hi/\hi-lo<=1000000/\hi<=2^31/\ ∀l,H l=none->Q (.ref l) (cm H l (.lst ((ND (hi-lo).toNat).map λ(i:Nat)=>V.int (lo+i))))):=by
 intro ah s σ H xs us Q I r h;obtain⟨p,lo,hi,rfl,hp,b1,b2,b3,b4,b5,q⟩:=h;obtain⟨u,rfl,rx⟩:=jN r;cases rx;obtain⟨t,u,v,hr⟩:=I.hok p _ hp;have hsz:RX lo hi 1=(hi-lo).toNat:=by
  unfold RX;rw[if_pos (by decide)];split
  ·rw[Int.ediv_one];omega
  ·omega
 refine call_list_range (a:=lo) (b:=hi) (c:=1) (n:=(hi-lo).toNat) (I.ok.hd hc) hr ?_ hsz (by omega) λh' tk acc' c' kp hS hacc=>?_
 ·exact small_one (by omega) (by omega) (by omega) (by omega)
 ·have hz:(hi-lo).toNat<=sizeLine:=by rw[PB];omega
  refine⟨.ref s.heap.objs.size,_,I.laid (t':=tk) kp (NT _) (show ObjOk X.prog X.w _ h' _ (.lst _) from⟨by simpa using hz,acc'.toList,c',?_,by simpa using hS⟩),rfl,q _ (I.hok.fresh (NT _))⟩;obtain⟨ha,hb⟩:=hacc;have key: ∀(l:List NG) (k m:Nat),l.length=m->(∀(j:Nat) v,l[j]? =some v-> ∃t,v=.int (lo+((k+j:Nat):Int)*1) t)->Vals ((Q6 k m).map λ(i:Nat)=>V.int (lo+i)) l:=by
   intro l
   induction l with
   |nil=>intro k m hm _;subst hm;exact .nil
   |cons x l ih=>
    intro k m hm hv;subst hm;rw[On,Uh];refine .cons ?_ (ih (k+1) l.length rfl λj v e=>?_)
    ·obtain⟨t,rfl⟩:=hv 0 x rfl;exact⟨t,by simp⟩
    ·obtain⟨t,rfl⟩:=hv (j+1) v (by simpa using e);exact⟨t,by congr 3;omega⟩
  have:=key acc'.toList 0 (hi-lo).toNat (by simpa using ha) λj v e=>by
   have:=hb j v (by simpa using e);simpa using this
  rw[SO];exact this
def Hb:D->Option D
 | .int j=>if j.natAbs<=1000000 then some (.lst (BC 0 j.toNat)) else none
 |_=>none
def G1(f:FE):FE:=λρ=>(f ρ).bind Hb
theorem kX(hc:X.calm=true)(hml:X.mg "list"=none)(hmr:X.mg "range"=none)(he:DP X c k e f)(hgl:Gl X "list":=by rfl)(hgr:Gl X "range":=by rfl)(hvl:PF "list"=some (.type "list"):=by kernel_rfl)(hvr:PF "range"=some (.type "range"):=by kernel_rfl)
 (hs1:N8 [e] X.env=(false,eval e X.env)::N8 [] X.env:=by rfl) (hpl1:(Ql pos (N8 [] X.env)).any (·.1)=false:=by rfl) (hpl2:(Ql p2 (N8 [] X.env)).any (·.1)=false:=by rfl) {p3:Pos}
 (hs2:N8 [.Call (.Name "range" p3) [e] [] p2] X.env=(false,eval (.Call (.Name "range" p3) [e] [] p2) X.env)::N8 [] X.env:=by rfl):
 DP X c .n (.Call (.Name "list" p) [.Call (.Name "range" p3) [e] [] p2] [] pos) (G1 f):=λhid ρ=>
 PE.imp (kH (rC hc) hgl hml hvl (eQ (kH Bl hgr hmr hvr (eQ (he hid ρ) iU hs1) (by decide) (by decide) hs1 hpl2) iU hs2) (by decide) (by decide) hs2 hpl1) λσ H Q hq_=>by
  obtain⟨sr,d,hd,q⟩:=hq_;unfold G1 at hd;cases e1:f ρ with
  |none=>rw[e1] at hd;cases hd
  |some z=>
   rw[e1] at hd;have hd:Hb z=some d:=hd;unfold Hb at hd;split at hd
   ·split at hd
    ·rename_i _ j _ _
     cases hd;refine⟨sr,_,e1,λv H1 s1 r1=>?_⟩;have b1:=(RK.b k r1 λa n=>sr.fresh n).int;cases b1;refine⟨j,rfl,λr hr=>?_⟩;refine⟨r,0,j,rfl,ba,by omega,by omega,by omega,by omega,by omega,λl hl=>?_⟩;have s2:Same H (cm H1 r (.rng 0 j)):=s1.trans (bf hr _);refine q _ _ (s2.trans (bf hl _)) ?_
     have:=gw (hid:=hid) (K:=X.K) hl s2 (KF 0 (j-0).toNat);rw[show(j-0).toNat=j.toNat by omega] at this⊢;exact this
    ·cases hd
   ·cases hd
def bP:=i2 (λ_ _=>true) λi j=>.int (i+j)
def gV:=i2 (λ_ _=>true) λi j=>.int (i-j)
def dZ:=i2 (λi j=>decide (i.natAbs<2^1000)&&decide (j.natAbs<2^1000)) λi j=>.int (i*j)
def cB:=i2 (λ_ j=>decide (0<j)) λi j=>.int (i % j)
def mr:=i2 (λ_ j=>decide (0<j)&&decide (j.natAbs<2^1000)) λi j=>.int (i / j)
def eX:=i2 (λi j=>decide (0<=j)&&decide (j<=1000000)&&decide (i.natAbs<2^64)) λi j=>.int (i^j.toNat)
def Cg:=i2 (λ_ _=>true) λi j=>.bl (decide (i<j))
def J8:=i2 (λ_ _=>true) λi j=>.bl (decide (i<=j))
def LW:=i2 (λ_ _=>true) λi j=>.bl (decide (j<=i))
theorem Al {i:Int}(h:i.natAbs<2^1000):Vt i<=2^20:=by
 unfold Vt;split
 ·exact Pe _
 ·rename_i hz
  have h0:i.natAbs≠0:=by simp at hz;omega
  have:=(Nat.log2_lt h0).mpr h;omega
theorem Gv:lv X (SN .Mult) (rI IntMulOk λi j=>.int (i*j)):=LR λ_ _ _ _ _ _ _ hc q=>mul_int q hc
variable {a b:Expr}
theorem cJ {k1 k2:Kd}(ha:DP X c k1 a f)(hb:DP X c k2 b g):DP X c .s (.BinOp a .Add b pos) (aw bP f g):=qB HX HM ha hb
theorem jt {k1 k2:Kd}(ha:DP X c k1 a f)(hb:DP X c k2 b g):DP X c .s (.BinOp a .Sub b pos) (aw gV f g):=qB Il HM ha hb
theorem Jn {K:NU}:oY K .s (rI IntMulOk λi j=>.int (i*j)) dZ:=Go λi j h=>by
 simp only[NQ,decide_eq_true_eq] at h;exact IntMulOk.of_bits (Al h.1) (Al h.2)
theorem j7 {k1 k2:Kd}(ha:DP X c k1 a f)(hb:DP X c k2 b g):DP X c .s (.BinOp a .Mult b pos) (aw dZ f g):=qB Gv Jn ha hb
theorem IE {K:NU}:oY K .s (rI (λ_ j=>0<j) λi j=>.int (i % j)) cB:=Go λi j h=>by simpa using h
theorem gG {k1 k2:Kd}(ha:DP X c k1 a f)(hb:DP X c k2 b g):DP X c .s (.BinOp a .Mod b pos) (aw cB f g):=qB Is IE ha hb
theorem DD:lv X (SN .FloorDiv) (rI (λ_ j=>0<j/\j.natAbs<2^1000) λi j=>.int (i / j)):=LR λi j _ _ _ _ _ hc q=>by
 obtain⟨h1,h2⟩:=hc;refine floordiv_int (by omega) (by rw[Int.fdiv_eq_ediv_of_nonneg i (by omega)];exact q) (.inl (PyProof.noPylong_of_log2 ?_));have:=(Nat.log2_lt (n:=j.natAbs) (by omega)).mpr h2;omega
theorem Fu {K:NU}:oY K .s (rI (λ_ j=>0<j/\j.natAbs<2^1000) λi j=>.int (i / j)) mr:=Go λi j h=>by
 simp only[NQ,decide_eq_true_eq] at h;exact⟨h.1,h.2⟩
theorem zg {k1 k2:Kd}(ha:DP X c k1 a f)(hb:DP X c k2 b g):DP X c .s (.BinOp a .FloorDiv b pos) (aw mr f g):=qB DD Fu ha hb
theorem Ie {K:NU}:oY K .s (rI Lq λi j=>.int (i^j.toNat)) eX:=Go λi j h=>by
 simp only[NQ,decide_eq_true_eq] at h;exact⟨h.1.1,h.1.2,h.2⟩
theorem nS {k1 k2:Kd}(ha:DP X c k1 a f)(hb:DP X c k2 b g):DP X c .s (.BinOp a .Pow b pos) (aw eX f g):=qB IN Ie ha hb
def HZ:D->Option D
 | .int i=>some (.int (-i))
 |_=>none
def kS(f:FE):FE:=λρ=>(f ρ).bind HZ
theorem m9(ha:DP X c k a f):DP X c .s (.UnaryOp .USub a pos) (kS f):=λhid ρ=>PE.imp (K1 Js (ha hid ρ)) λσ H Q hq_=>by
 obtain⟨sr,d,hd,q⟩:=hq_;unfold kS at hd;cases e1:f ρ with
 |none=>rw[e1] at hd;cases hd
 |some z=>
  rw[e1] at hd;have hd:HZ z=some d:=hd;unfold HZ at hd;split at hd
  ·cases hd;refine⟨sr,_,e1,λv H1 s1 r1=>?_⟩;cases (RK.b k r1 λa n=>sr.fresh n).int;exact⟨_,rfl,q _ H1 s1 .int⟩
  ·cases hd
end
structure Cl(P:OI)(w:OT)(K:NU)(mg:Str->Option NG)(base:Heap)(k:Nat)(x:Str)(ps:List Str)(sp:Sp):Prop where
 ex: ∃f fd,FnOk P w K mg base u3 k f fd ps sp/\mg x=some (.ref f)/\Tn K (.ref f)=true/\Binds K fd ps []
structure Df(K:NU)(mg:Str->Option NG)(x:Str)(st:Stmt)(ps:List Str):Prop where
 ex: ∃f fd,Fun K x x st f fd/\mg x=some (.ref f)/\Binds K fd ps []
section
variable {P:OI}{w:OT}{K:NU}{mg:Str->Option NG}{base:Heap}{x:Str}{st:Stmt}{N ps:List Str}{k n:Nat}{t:FS}{kd:Kd}
theorem aP(F:Df K mg x st ps)(S:FnScope N ps (ax st))(hkd:kd≠ .b)(hn:ps.length=n)
 (body: ∀(f:Addr) (cdv:NG) (A:OL) (outer:List Env) (s:NH) (H:Hp) (hid:bN) (E:XK),Room k (A.deeper (SW x (ax st) s.heap.objs.size f cdv))->
   ze (rM u3 P w K mg base N x (ax st) f cdv A outer s H E).nox ⟨H,hid,λ_=>false⟩ kd (dw st) t):
 Cl P w K mg base (k+1) x ps (cb K kd n (dP kd N.length t)):=by
 obtain⟨f,fd,F,hm,hb⟩:=F.ex;subst hn;exact⟨f,fd,AK F S hkd (body f),hm,F.kp,hb⟩
theorem yJ(F:Df K mg x st ps)(S:FnScope N ps (ax st))(hkd:kd≠ .b)(hn:ps.length=n+1)
 (body: ∀(f:Addr) (cdv:NG) (A:OL) (outer:List Env) (s:NH) (H:Hp) (hid:bN) (a:Addr) (E:XK),Room k (A.deeper (SW x (ax st) s.heap.objs.size f cdv))->
   ze (rM u3 P w K mg base N x (ax st) f cdv A outer s H E).nox ⟨H,hid,λb=>decide (b=a)⟩ kd (dw st) t):
 Cl P w K mg base (k+1) x ps (zk K kd n (BZ kd N.length t)):=by
 obtain⟨f,fd,F,hm,hb⟩:=F.ex;exact⟨f,fd,JN F S hkd hn (body f),hm,F.kp,hb⟩
end
section
variable {X:Cx}{c:Ct}{e a b:Expr}{es rest:List Expr}{k:Kd}{pos p:Pos}{x:Str}{ps:List Str}{j n:Nat}
def nF(n:Nat)(P:List D->Option D):List D->Option D:=λds=>if ds.length=n then P ds else none
theorem aK {P:List D->Option D}{fs:FA}(C:Cl X.prog X.w X.K X.mg X.base j x ps (cb X.K k n P))(hr:Room j X.A)
 (ha:DA X c (e::es) fs) (hg:Gl X x:=by rfl) (hdb:(x==("__debug__":Str))=false:=by decide) (he:N8 (e::es) X.env=(false,eval e X.env)::N8 es X.env:=by rfl) (hpl:(Ql pos (N8 es X.env)).any (·.1)=false:=by rfl):
 DP X c k (.Call (.Name x p) (e::es) [] pos) (ak (nF n P) fs):=by
 obtain⟨f,fd,F,hm,hk,hb⟩:=C.ex;exact GJ F hr hm hk hb ha hg hdb he hpl
theorem mo(i:Nat){y:Str}{py:Pos}{M:List D->List D->Option (D×List D)}{fs:GA}(C:Cl X.prog X.w X.K X.mg X.base j x ps (zk X.K k n M))(hr:Room j X.A)
 (ha:DG X c es fs) (hkb:k≠ .b:=by decide) (hN:X.N[i]? =some y:=by rfl) (hv:xG X.env.scope y:=by first|exact P7 rfl|exact Pi (P7 rfl)|exact Pi (Pi rfl)) (hd:(y==("__debug__":Str))=false:=by decide)
 (hcd:(y==("__classdict__":Str))=false:=by decide) (hs:N8 (.Name y py::es) X.env=(false,eval (.Name y py) X.env)::N8 es X.env:=by rfl) (hg:Gl X x:=by rfl) (hdb:(x==("__debug__":Str))=false:=by decide) (hpl:(Ql pos (N8 es X.env)).any (·.1)=false:=by rfl):
 DE X c k (.Call (.Name x p) (.Name y py::es) [] pos) (aQ i n M fs):=by
 obtain⟨f,fd,F,hm,hk,hb⟩:=C.ex;exact De i F hr hm hk hb ha hkb hN hv hd hcd hs hg hdb hpl
end
open PySem PySem.W PyProof.Rows
structure Od(b:Nat->Nat->Bool):Prop where
 tr: ∀ {i j k:Nat},b j i=false->b k j=false->b k i=false
 as: ∀ {i j:Nat},b i j=true->b j i=false
theorem Od.rf {b:Nat->Nat->Bool}(O:Od b)(i:Nat):b i i=false:=by
 cases h:b i i with
 |false=>rfl
 |true=>have:=O.as h;rw[h] at this;exact this
structure Pm(N:Nat)(p:Array Nat):Prop where
 perm:p.Perm (PR (ND N))
theorem Pm.size {N:Nat}{p:Array Nat}(h:Pm N p):p.size=N:=by rw[h.perm.size_eq];simp
theorem Pm.lt {N:Nat}{p:Array Nat}(h:Pm N p)(hN:0<N)(k:Nat):p.getD k 0<N:=by
 by_cases hk:k<p.size
 ·have e:p.getD k 0=p[k]:=by simp[Q7,hk]
  rw[e];have:p[k]∈(PR (ND N)):=h.perm.mem_iff.mp (Wc hk);simpa using this
 ·have e:p.getD k 0=0:=by simp[Q7,hk]
  rw[e];exact hN
theorem v9 {p q:Array Nat}{i j:Nat}(h:p[i]? =q[j]?):p.getD i 0=q.getD j 0:=by
 rw[Ta,Ta,h]
section
variable {b:Nat->Nat->Bool}{N:Nat}{cmp:Nat->Nat->(Bool->NH->Prop)->NH->Prop}{s:NH}
def Srt(b:Nat->Nat->Bool)(p:Array Nat)(n:Nat):Prop:= ∀i j,i<=j->j<n->b (p.getD j 0) (p.getD i 0)=false
def Fal(b:Nat->Nat->Bool)(p:Array Nat)(n:Nat):Prop:= ∀i j,i<=j->j<n->b (p.getD i 0) (p.getD j 0)=false
theorem Srt.succ(O:Od b){p:Array Nat}{n:Nat}(h:Srt b p n)(hn:1<=n)(e:b (p.getD n 0) (p.getD (n-1) 0)=false):Srt b p (n+1):=λi j hij hj=>by
 by_cases h1:j<n
 ·exact h i j hij h1
 ·have:j=n:=by omega
  subst this
  by_cases h2:i=j
  ·subst h2;exact O.rf _
  ·exact O.tr (h i (j-1) (by omega) (by omega)) e
theorem Fal.succ(O:Od b){p:Array Nat}{n:Nat}(h:Fal b p n)(hn:1<=n)(e:b (p.getD (n-1) 0) (p.getD n 0)=false):Fal b p (n+1):=λi j hij hj=>by
 by_cases h1:j<n
 ·exact h i j hij h1
 ·have:j=n:=by omega
  subst this
  by_cases h2:i=j
  ·subst h2;exact O.rf _
  ·exact O.tr e (h i (j-1) (by omega) (by omega))
theorem Fal.congr(O:Od b){p q:Array Nat}{n:Nat}(h:Fal b p n)(e: ∀k,k<n->b (p.getD k 0) (q.getD k 0)=false/\b (q.getD k 0) (p.getD k 0)=false):Fal b q n:=λi j hij hj=>
 O.tr (O.tr (e j hj).1 (h i j hij hj)) (e i (by omega)).2
theorem F0(O:Od b)(p:Array Nat):Srt b p 1:=λi j hij hj=>by
 have:i=j:=by omega
 subst this;exact O.rf _
theorem FD(O:Od b)(p:Array Nat):Fal b p 1:=λi j hij hj=>by
 have:i=j:=by omega
 subst this;exact O.rf _
theorem nQ {p:Array Nat}{i j:Nat}(hj:j<=p.size)(k:Nat):(Tb p i j).getD k 0=if i<=k/\k<j then p.getD (i+j-1-k) 0 else p.getD k 0:=by
 have:=getElem?_mirror_all (i:=i) hj k;unfold Tb;split
 ·rename_i h;rw[if_pos h] at this;exact v9 this
 ·rename_i h;rw[if_neg h] at this;exact v9 this
theorem Pm.rev {p:Array Nat}(h:Pm N p)(i j:Nat):Pm N (Tb p i j):=⟨(mirror_perm _ _ _ _).trans h.perm⟩
variable(O:Od b)(hN:0<N)(hc: ∀(i j:Nat) (C:Bool->NH->Prop),i<N->j<N->C (b i j) s->cmp i j C s)
include O hN hc
theorem xS {p:Array Nat}(P:Pm N p){Q:Nat->NH->Prop}: ∀(f n:Nat),1<=n->n+f<=N->Srt b p n->
 (∀m,n<=m->m<=n+f->Srt b p m->(m<n+f->b (p.getD m 0) (p.getD (m-1) 0)=true)->Q m s)->(kas_asc p f n).kasWp cmp Q s
 |0,n,h1,h2,hs,q=>q n (NT _) (NT _) hs λz=>absurd z (QV _)
 |f+1,n,h1,h2,hs,q=>by
  unfold kas_asc;refine hc _ _ _ (P.lt hN _) (P.lt hN _) ?_
  cases e:b (p.getD n 0) (p.getD (n-1) 0) with
  |true=>simp only[if_true];exact q n (NT _) (by omega) hs λ_=>e
  |false=>
   simp only[NX,if_false];exact xS P f (n+1) (by omega) (by omega) (hs.succ O h1 e) λm a1 a2 a3 a4=>q m (by omega) (by omega) a3 λz=>a4 (by omega)
def Eqs(b:Nat->Nat->Bool)(p:Array Nat)(n q:Nat):Prop:= ∀i,n- (q+1)<=i->i<n->b (p.getD i 0) (p.getD (n-1) 0)=false/\b (p.getD (n-1) 0) (p.getD i 0)=false
omit hN hc in
theorem Eqs.rev {p:Array Nat}{n q:Nat}(hn:n<=p.size)(hq:q<n)(h:Eqs b p n q)(k:Nat):b (p.getD k 0) ((Tb p (n- (q+1)) n).getD k 0)=false/\b ((Tb p (n- (q+1)) n).getD k 0) (p.getD k 0)=false:=by
 rw[nQ hn];split
 ·rename_i hk
  have h1:=h k hk.1 hk.2;have h2:=h (n- (q+1)+n-1-k) (by omega) (by omega);exact⟨O.tr h2.2 h1.1,O.tr h1.2 h2.1⟩
 ·exact⟨O.rf _,O.rf _⟩
theorem pK {Q:Array Nat×Nat×Nat->NH->Prop}: ∀(f:Nat) (p:Array Nat) (n q:Nat),Pm N p->1<=n->n+f<=N->q<n->Fal b p n->Eqs b p n q->
 (∀p' n' q',Pm N p'->n<=n'->n'<=n+f->q'<n'->Fal b p' n'->Eqs b p' n' q'->Q (p',n',q') s)->(kas_desc f p n q).kasWp cmp Q s
 |0,p,n,q,P,h1,h2,hq,hf,he,k=>k p n q P (NT _) (NT _) hq hf he
 |f+1,p,n,q,P,h1,h2,hq,hf,he,k=>by
  have hz:=P.size;have e0: ∀p':Array Nat,Eqs b p' (n+1) 0:=λp' i a1 a2=>by
   have:i=n:=by omega
   subst this;exact⟨O.rf _,O.rf _⟩
  unfold kas_desc;refine hc _ _ _ (P.lt hN _) (P.lt hN _) ?_
  cases e:b (p.getD n 0) (p.getD (n-1) 0) with
  |true=>
   simp only[if_true];split
   ·rename_i hq0
    have ev:=he.rev O (by omega) hq;have hf':Fal b (Tb p (n- (q+1)) n) n:=hf.congr O λk _=>ev k
    refine pK f _ (n+1) 0 (P.rev _ _) (by omega) (by omega) (by omega) (hf'.succ O h1 ?_) (e0 _) λp' n' q' a1 a2 a3=>k p' n' q' a1 (by omega) (by omega)
    have e1:(Tb p (n- (q+1)) n).getD n 0=p.getD n 0:=by rw[nQ (by omega),if_neg (by omega)]
    rw[e1];exact O.tr (O.as e) (ev (n-1)).2
   ·exact pK f p (n+1) 0 P (by omega) (by omega) (by omega) (hf.succ O h1 (O.as e)) (e0 _) λp' n' q' a1 a2 a3=>k p' n' q' a1 (by omega) (by omega)
  |false=>
   simp only[NX,if_false];refine hc _ _ _ (P.lt hN _) (P.lt hN _) ?_
   cases e2:b (p.getD (n-1) 0) (p.getD n 0) with
   |true=>simp only[if_true];exact k p n q P (NT _) (by omega) hq hf he
   |false=>
    simp only[NX,if_false];refine pK f p (n+1) (q+1) P (by omega) (by omega) (by omega) (hf.succ O h1 e2) (λi a1 a2=>?_) λp' n' q' b1 b2 b3=>k p' n' q' b1 (by omega) (by omega)
    rw[show n+1-1=n by omega]
    by_cases hi:i=n
    ·subst hi;exact⟨O.rf _,O.rf _⟩
    ·have z:=he i (by omega) (by omega);exact⟨O.tr e2 z.1,O.tr z.2 e⟩
theorem wO {p:Array Nat}(P:Pm N p){n:Nat}(h1:1<=n)(hn:n<=N)(hf:Fal b p n){Q:Nat×Array Nat->NH->Prop}(q: ∀m p',Pm N p'->1<=m->m<=N->Srt b p' m->Q (m,p') s):(kas_tail3 n N p).kasWp cmp Q s:=by
 unfold kas_tail3;rw[RO];have hz:=P.size;have hs:Srt b (Tb p 0 n) n:=λi j hij hj=>by
  rw[nQ (by omega),nQ (by omega),if_pos (by omega),if_pos (by omega)];exact hf _ _ (by omega) (by omega)
 exact xS O hN hc (P.rev _ _) (N-n) n h1 (by omega) hs λm a1 a2 a3 _=>q m _ (P.rev _ _) (by omega) (by omega) a3
theorem oU {p:Array Nat}(P:Pm N p){n:Nat}(h1:1<=n)(hn:n+1<=N)(hf:Fal b p (n+1)){Q:Nat×Array Nat->NH->Prop}(q: ∀m p',Pm N p'->1<=m->m<=N->Srt b p' m->Q (m,p') s):(kas_descPart n N p).kasWp cmp Q s:=by
 unfold kas_descPart;rw[RO];refine pK O hN hc (N- (n+1)) p (n+1) 0 P (by omega) (by omega) (by omega) hf (λi a1 a2=>?_) λp' n' q' a1 a2 a3 a4 a5 a6=>?_
 ·have:i=n:=by omega
  subst this;exact⟨O.rf _,O.rf _⟩
 ·dsimp only;have hz:=a1.size;split
  ·exact wO O hN hc (a1.rev _ _) (by omega) (by omega) (a5.congr O λk _=>a6.rev O (by omega) a4 k) q
  ·exact wO O hN hc a1 (by omega) (by omega) a5 q
theorem EH {p:Array Nat}(P:Pm N p){Q:Nat×Array Nat->NH->Prop}(q: ∀m p',Pm N p'->1<=m->m<=N->Srt b p' m->Q (m,p') s):(kas_count N p).kasWp cmp Q s:=by
 unfold kas_count;rw[RO];have hz:=P.size;refine xS O hN hc P (N-1) 1 (NT _) (by omega) (F0 O p) λm a1 a2 a3 a4=>?_
 split
 ·exact q m p P a1 (by omega) a3
 ·rename_i hm
  have hm':m≠N:=by simpa using hm
  have lt:=a4 (by omega);split
  ·refine hc _ _ _ (P.lt hN _) (P.lt hN _) ?_
   cases e:b (p.getD 0 0) (p.getD (m-1) 0) with
   |true=>simp only[if_true];exact q m p P a1 (by omega) a3
   |false=>
    simp only[NX,if_false];have eq: ∀i j,i<m->j<m->b (p.getD i 0) (p.getD j 0)=false:=λi j hi hj=>O.tr (O.tr (a3 j (m-1) (by omega) (by omega)) e) (a3 0 i (by omega) hi)
    have hr: ∀i,i<m->(Tb p 0 m).getD i 0=p.getD (0+m-1-i) 0:=λi hi=>by rw[nQ (by omega),if_pos (by omega)]
    refine oU O hN hc (P.rev _ _) a1 (by omega) (Fal.succ O (λi j hij hj=>?_) a1 ?_) q
    ·rw[hr i (by omega),hr j hj];exact eq _ _ (by omega) (by omega)
    ·have e1:(Tb p 0 m).getD m 0=p.getD m 0:=by rw[nQ (by omega),if_neg (by omega)]
     rw[e1,hr (m-1) (by omega)];exact O.tr (O.as lt) (eq _ _ (by omega) (by omega))
  ·have:m=1:=by omega
   subst this;exact oU O hN hc P (NT _) (by omega) ((FD O p).succ O (NT _) (O.as lt)) q
theorem pO {p:Array Nat}(P:Pm N p){k:Nat}(hs:Srt b p k){Q:Nat->NH->Prop}: ∀(f l r:Nat),l<=r->r<=k->r-l<=f->(∀i,i<l->b (p.getD k 0) (p.getD i 0)=false)->(∀i,r<=i->i<k->b (p.getD k 0) (p.getD i 0)=true)->
 (∀m,m<=k->(∀i,i<m->b (p.getD k 0) (p.getD i 0)=false)->(∀i,m<=i->i<k->b (p.getD k 0) (p.getD i 0)=true)->Q m s)->(kas_place p k f l r).kasWp cmp Q s
 |0,l,r,h1,h2,h3,a,c,q=>q l (by omega) a λi z=>c i (by omega)
 |f+1,l,r,h1,h2,h3,a,c,q=>by
  unfold kas_place;split
  ·exact q l (by omega) a λi z=>c i (by omega)
  ·rename_i hlr
   refine hc _ _ _ (P.lt hN _) (P.lt hN _) ?_
   cases e:b (p.getD k 0) (p.getD ((l+r) / 2) 0) with
   |true=>
    simp only[if_true];refine pO P hs f l _ (by omega) (by omega) (by omega) a (λi z1 z2=>?_) q;cases e2:b (p.getD k 0) (p.getD i 0) with
    |true=>rfl
    |false=>
     have:=O.tr (hs ((l+r) / 2) i z1 z2) e2;rw[e] at this;exact this.symm
   |false=>
    simp only[NX,if_false];exact pO P hs f _ r (by omega) (by omega) (by omega) (λi z=>O.tr (hs i ((l+r) / 2) (by omega) (by omega)) e) c q
omit hN hc in
theorem yh {p:Array Nat}{k m:Nat}(hk:k<p.size)(hs:Srt b p k)(hm:m<=k)(a: ∀i,i<m->b (p.getD k 0) (p.getD i 0)=false)(c: ∀i,m<=i->i<k->b (p.getD k 0) (p.getD i 0)=true):Srt b (bubble p k (k-m)) (k+1):=by
 have g: ∀j,(bubble p k (k-m)).getD j 0=if j=m then p.getD k 0 else if m<j/\j<=k then p.getD (j-1) 0 else p.getD j 0:=λj=>by
  have:=getElem?_bubble hk (k-m) (by omega) j;rw[show k- (k-m)=m by omega] at this
  by_cases h:j=m
  ·rw[if_pos h] at this⊢;exact v9 this
  ·rw[if_neg h] at this⊢
   by_cases h2:m<j/\j<=k
   ·rw[if_pos h2] at this⊢;exact v9 this
   ·rw[if_neg h2] at this⊢;exact v9 this
 intro i j hij hj;rw[g,g]
 by_cases ej:j=m
 ·rw[if_pos ej]
  by_cases ei:i=m
  ·rw[if_pos ei];exact O.rf _
  ·rw[if_neg ei,if_neg (by omega)];exact a i (by omega)
 ·rw[if_neg ej]
  by_cases ei:i=m
  ·rw[if_pos ei,if_pos (by omega)];exact O.as (c _ (by omega) (by omega))
  ·rw[if_neg ei]
   by_cases hj2:m<j/\j<=k
   ·rw[if_pos hj2]
    by_cases hi2:m<i/\i<=k
    ·rw[if_pos hi2];exact hs _ _ (by omega) (by omega)
    ·rw[if_neg hi2];exact hs _ _ (by omega) (by omega)
   ·rw[if_neg hj2,if_neg (by omega)];exact hs _ _ hij (by omega)
theorem D2 {Q:Array Nat->NH->Prop}: ∀(f:Nat) (p:Array Nat) (k:Nat),Pm N p->1<=k->k+f=N->Srt b p k->(∀p',Pm N p'->Srt b p' N->Q p' s)->(kas_bin f p k).kasWp cmp Q s
 |0,p,k,P,h1,h2,hs,q=>q p P (by rw[<-h2];exact hs)
 |f+1,p,k,P,h1,h2,hs,q=>by
  unfold kas_bin;rw[RO];have hz:=P.size;refine pO O hN hc P hs k 0 k (Pe _) (NT _) (by omega) (λi z=>absurd z (by omega)) (λi z1 z2=>absurd z2 (by omega)) λm a1 a2 a3=>?_
  exact D2 f _ (k+1) ⟨(bubble_perm _ _ _).trans P.perm⟩ (by omega) (by omega) (yh O (by omega) hs a1 a2 a3) q
theorem tW {Q:Array Nat->NH->Prop}(q: ∀p,Pm N p->Srt b p N->Q p s):(Wd N).kasWp cmp Q s:=by
 unfold Wd;rw[RO];refine EH O hN hc ⟨Array.Perm.refl _⟩ λm p' P h1 h2 hs=>?_
 dsimp only;split
 ·exact D2 O hN hc _ p' _ P (by omega) (by omega) (by rw[show max m 1=m by omega];exact hs) q
 ·have:m=N:=by omega
  subst this;exact q p' P hs
end
open PySem PySem.W PySem.Calls PyProof.Rows
section
variable {prog:OI}{w:OT}{A:OL}{E:NG->NH->Prop}{s:NH}
theorem qL {a:Addr}{us:List NG}{n:Nat}{P:PySem.Fin->NH->Prop}(ho:s.heap.get? a=some (Ro "list" us.toArray n))(hz:us.length<64)
 (few:us.length<2->P (.done (.ret .none)) {s with heap:=SC s.heap a us us.toArray})
 (many:2<=us.length-> ∀g:Heap,(∀c o,c≠a->s.heap.get? c=some o->g.get? c=some o)->N1 (model prog w) A (keyKind' us.toArray) (λκ t=>t={s with heap:=g}/\
   (Wd us.length).kasWp (We prog w A κ us) (λp t'=>t'=t/\P (.done (.ret .none)) {s with heap:=SC s.heap a us (PR (p.toList.map λi=>us.getD i OP))}) t) (λ_ _=>False) {s with heap:=g}):
 N1 (model prog w) A (Rc.«list.sort» ⟨[.ref a],[]⟩) P E s:=by
 have la:a<s.heap.objs.size:=N0 ho;have z1:us.toArray.size<=sizeLine:=by rw[N9,PB];omega
 obtain⟨c1,h1⟩: ∃c,(s.heap.update a (QD λ_=> #[])).get? a=some (Ro "list" #[] c):=⟨_,get?_update_seq ho (λ_=> #[])⟩
 have h2:(((s.heap.update a (QD λ_=> #[])).push (Ro "tuple" us.toArray 0)).push (Ro "list" #[] 0)).get? a=some (Ro "list" #[] c1):=NM _ (NM _ h1);have kp: ∀c o,c≠a->s.heap.get? c=some o->(((s.heap.update a (QD λ_=> #[])).push (Ro "tuple" us.toArray 0)).push (Ro "list" #[] 0)).get? c=some o:=λc o nc e=>
  NM _ (NM _ (by rw[Heap.get?_update_ne _ _ _ _ nc];exact e))
 rw[list_sort_plain];refine NE (listItems_at ho rfl (NE (VJ ho rfl ?_ z1 (Pe _))));refine NE (WP h1 rfl (NE (Xy ?_ (show us.length<=_ by rw[PB];omega))));refine NE (VL (O5 ?_) (Pe _));show N1 (model prog w) A _ P E {s with heap:=((s.heap.update a (QD λ_=> #[])).push (Ro "tuple" us.toArray 0)).push (Ro "list" #[] 0)};dsimp only
 by_cases hs:us.toArray.size<2
 ·rw[if_pos hs,if_pos hs];refine NE (NJ ?_);rw[StateT.run_pure];refine NE (NJ ?_);dsimp only;have ea:YB (λx=>x.2) (us.toArray.zip us.toArray)=us.toArray:=by
   apply Array.toList_inj.mp;simp[List.map_snd_zip]
  refine NE (WP h2 rfl (NE (VJ h2 rfl ?_ (Pe _) ?_)))
  ·simp only[bne_self_eq_false,NX,if_false];refine NJ ?_
   have:=few (by simpa using hs);show P _ {s with heap:=SC s.heap a us (YB (λx=>x.2) (us.toArray.zip us.toArray))};rw[ea];exact this
  ·show(YB (λx=>x.2) (us.toArray.zip us.toArray)).size<=_;rw[ea];exact TU z1
 ·rw[if_neg hs,if_neg hs];have h2':2<=us.length:=by simpa using hs
  refine NE (OM (many h2' _ kp) (λκ t ⟨et,ht⟩=>?_) λ_ _ x=>x.elim)
  subst et;refine NE (OM (kat_run (ks:=us) (vs:=us) (G:=λp t'=>t'=_/\P (.done (.ret .none)) {s with heap:=SC s.heap a us (PR (p.toList.map λi=>us.getD i OP))})
   (Q:=λst t'=>t'=_/\failedOf st=none/\ ∃p:Array Nat,p.size=us.length/\(arrOf st).map (·.2)=PR (p.toList.map λi=>us.getD i OP)/\P (.done (.ret .none)) {s with heap:=SC s.heap a us (PR (p.toList.map λi=>us.getD i OP))})
   rfl h2' hz (λp st t' a1 a2 a3 a4=>⟨a4.1,a3,p,a1,kat_snds rfl a2,a4.2⟩) ht) (λr t' hr=>?_) λ_ _ x=>x)
  obtain⟨u,st⟩:=r;obtain⟨e1,hf,p,hp,ho',hP⟩:=hr;subst e1;dsimp only at hf ho'⊢;rw[ho',hf];have zz:(PR (p.toList.map λi=>us.getD i OP)).size<=sizeLine:=by rw[N9,NK,N4,hp,PB];omega
  refine NE (WP h2 rfl (NE (VJ h2 rfl ?_ (Pe _) (TU zz))));simp only[bne_self_eq_false,NX,if_false];exact NJ hP
theorem xu {l:Addr}{T:String}{o:Obj}{us:List NG}{n:Nat}{Q:List NG->NH->Prop}(hT:T="list"\/T="tuple")(ho:s.heap.get? l=some o)(hc:o.cls=.type T)(hd:o.data=.seq us.toArray n)(hz:us.length<64)
 (q: ∀g:Heap,(∀b u,s.heap.get? b=some u->g.get? b=some u)->s.heap.objs.size<=g.objs.size->Q us {s with heap:=g}):N1 (model prog w) A (Zf (.ref l)) Q E s:=by
 have z:us.toArray.size<=sizeLine:=by rw[N9,PB];omega
 have hN:(s.heap.push {cls:=.type "list",data:=.seq ([]:List NG).toArray}).get? s.heap.objs.size=some {cls:=.type "list",data:=.seq #[] 0}:=NZ _ rfl;have hU:=Pg (QD (·++us.toArray)) hN rfl
 have last:N1 (model prog w) A (do
  match (<-load s.heap.objs.size).data with
   |Data.seq xs _=>pure xs.toList
   |_=>RW "internal:collect") Q E {s with heap:=(s.heap.push {cls:=.type "list",data:=.seq ([]:List NG).toArray}).update s.heap.objs.size (QD (·++us.toArray))}:=by
  refine NE (Xj hU (NJ ?_));show Q ((#[]:Array NG)++us.toArray).toList _;rw[show((#[]:Array NG)++us.toArray).toList=us by simp];refine q _ (λb u e=>(Qv _ _ (QQ (N0 e))).trans (NM _ e)) ?_
  rw[Heap.size_update,P8];exact RZ _
 unfold Zf;refine NE (Xz (Ri UW ?_));rw[QR UX _];show N1 _ A.in1 (Vl []>>=λr=>U4 (.builtin "list.__iadd__" ⟨[r,.ref l],[]⟩)) _ _ s;refine NE (Pw (NJ ⟨VM Se _,Ri Wf ?_⟩));rw[QR Se _];show N1 _ A.in1 (Tc (.ref s.heap.objs.size) (.ref l) (.ref s.heap.objs.size)) _ _ _;have ext:=wpAny_extend_seq (prog:=prog) (w:=w) (A:=A) (hsz:=z) (R:=λr t=>r=.ok (.ret (.ref s.heap.objs.size))/\t={s with heap:=(s.heap.push {cls:=.type "list",data:=.seq ([]:List NG).toArray}).update s.heap.objs.size (QD (·++us.toArray))})
  (s:={s with heap:=s.heap.push {cls:=.type "list",data:=.seq ([]:List NG).toArray}}) _ l (.ref s.heap.objs.size) 0 hT hN (NM _ ho) hc hd ⟨rfl,rfl⟩
 refine OM ext (λfin t h=>?_) (λe t h=>absurd h.1 (by simp));cases fin with
 |done f=>obtain⟨e,rfl⟩:=h;cases e;exact last
 |again c=>exact⟨h.1,Rb h.2 λr t' hr=>by obtain⟨rfl,rfl⟩:=hr;exact last⟩
theorem tj {l:Addr}{T:String}{o:Obj}{us:List NG}{n:Nat}{Q:NG->NH->Prop}{G:List Nat->Prop}(hT:T="list"\/T="tuple")(ho:s.heap.get? l=some o)(hc:o.cls=.type T)(hd:o.data=.seq us.toArray n)(hz:us.length<64)
 (few:us.length<2->G (ND us.length))
 (many:2<=us.length-> ∀g:Heap,(∀c o,s.heap.get? c=some o->g.get? c=some o)->N1 (model prog w) A.in1.in1 (keyKind' us.toArray) (λκ t=>t={s with heap:=g}/\
   (Wd us.length).kasWp (We prog w A.in1.in1 κ us) (λp t'=>t'=t/\G p.toList) t) (λ_ _=>False) {s with heap:=g})
 (fin: ∀(g:Heap) (a e:Nat) (ix:List Nat),(∀c o,s.heap.get? c=some o->g.get? c=some o)->s.heap.objs.size<=a->G ix->g.get? a=some (Ro "list" (PR (ix.map λi=>us.getD i OP)) e)->Q (.ref a) {s with heap:=g}):
 N1 (model prog w) A (call (.builtin "sorted") [.ref l]) Q E s:=by
 refine Tv kind_sorted plain_sorted entry_sorted (args_sorted1 _) ?_
 unfold Rc.«sorted»;refine NE (m:=checkCount "sorted" 1 1 _) (NJ (NE (xu hT ho hc hd hz λg kg sg=>?_)));refine NE (VL ?_ (by rw[PB];omega));have hL:(g.push (Ro "list" us.toArray 0)).get? g.objs.size=some (Ro "list" us.toArray 0):=NZ _ rfl;show N1 _ _ _ _ _ {s with heap:=g.push (Ro "list" us.toArray 0)};have end_: ∀ix:List Nat,G ix->Q (.ref g.objs.size) {s with heap:=SC (g.push (Ro "list" us.toArray 0)) g.objs.size us (PR (ix.map λi=>us.getD i OP))}:=λix hG=>by
  obtain⟨e,he⟩:=Ye (out:=PR (ix.map λi=>us.getD i OP)) hL;refine fin _ g.objs.size e ix (λc u hu=>?_) sg hG he;have lt:=N0 (kg c u hu);rw[XA (Oz lt) (by rw[size_push'];exact Wg lt)];exact NM _ (kg c u hu)
 refine NE (O5 (Pa XB ⟨_,hL,rfl⟩ WZ (qL (P:=λf t=> ∃v,f=.done (.ret v)/\N1 (model prog w) A.in1 (pure (XC (.ret (PM g.objs.size)))) (λf t=> ∃v,f=.done (.ret v)/\Q v t) E t) hL hz (λh=>?_) (λh g' kg'=>?_)) (XD _)))
 ·have e:=end_ (ND us.length) (few h)
  rw[show(ND us.length).map (λi=>us.getD i OP)=us from Sf λi=>by
   by_cases hi:i<us.length
   ·simp[hi]
   ·simp[hi]] at e
  exact⟨_,rfl,NJ ⟨_,rfl,e⟩⟩
 ·refine OM (many h g' λc u hu=>kg' c u (Oz (N0 (kg c u hu))) (NM _ (kg c u hu))) (λκ t ⟨et,ht⟩=>⟨et,?_⟩) λ_ _ x=>x
  rw[kat_ask_eq rfl] at ht⊢;exact kas_wp_mono ht λp t' ⟨e1,hG⟩=>⟨e1,_,rfl,NJ ⟨_,rfl,end_ _ hG⟩⟩
end
open PySem PySem.W PySem.Spec PyProof.Rows
def bu:List Int->List Int->Bool
 |_,[]=>false
 | [],_::_=>true
 |x::xs,y::ys=>if x=y then bu xs ys else decide (x<y)
def Bj(x y:Int):Bool:=decide (x<y)
structure Lt {α:Type}(lt:α->α->Bool):Prop where
 tr: ∀ {a b c:α},lt b a=false->lt c b=false->lt c a=false
 as: ∀ {a b:α},lt a b=true->lt b a=false
 eq: ∀ {a b:α},lt a b=false->lt b a=false->a=b
theorem G0:Lt Bj:=⟨λh1 h2=>by simp only[Bj,decide_eq_false_iff_not] at*;omega,λh=>by simp only[Bj,decide_eq_false_iff_not,decide_eq_true_eq] at*;omega,λh1 h2=>by simp only[Bj,decide_eq_false_iff_not] at*;omega⟩
theorem y0: ∀ {a b:List Int},bu a b=true->bu b a=false
 | [],[],h=>by simp[bu] at h
 |x::xs,[],h=>by simp[bu] at h
 | [],y::ys,h=>by simp[bu]
 |x::xs,y::ys,h=>by
  unfold bu at h⊢
  by_cases e:x=y
  ·subst e;simp only[if_true] at h⊢;exact y0 h
  ·rw[if_neg e] at h;rw[if_neg (OX e)];simp only[decide_eq_true_eq,decide_eq_false_iff_not] at*;omega
theorem AI: ∀ {a b:List Int},bu a b=false->bu b a=false->a=b
 | [],[],_,_=>rfl
 |x::xs,[],_,h=>by simp[bu] at h
 | [],y::ys,h,_=>by simp[bu] at h
 |x::xs,y::ys,h,h'=>by
  unfold bu at h h'
  by_cases e:x=y
  ·subst e;simp only[if_true] at h h';rw[AI h h']
  ·rw[if_neg e] at h;rw[if_neg (OX e)] at h';simp only[decide_eq_false_iff_not] at*;omega
theorem zL: ∀ {a b c:List Int},bu b a=false->bu c b=false->bu c a=false
 | [],_,_,_,_=>by unfold bu;rfl
 |x::xs,[],_,h,_=>by simp[bu] at h
 |x::xs,y::ys,[],_,h=>by simp[bu] at h
 |x::xs,y::ys,z::zs,h1,h2=>by
  unfold bu at h1 h2⊢
  by_cases e1:y=x
  ·subst e1;simp only[if_true] at h1
   by_cases e2:z=y
   ·subst e2;simp only[if_true] at h2⊢;exact zL h1 h2
   ·rw[if_neg e2] at h2⊢;exact h2
  ·rw[if_neg e1] at h1
   by_cases e2:z=y
   ·subst e2;rw[if_neg e1];exact h1
   ·rw[if_neg e2] at h2;simp only[decide_eq_false_iff_not] at h1 h2;rw[if_neg (by omega)];simp only[decide_eq_false_iff_not];omega
theorem ym:Lt bu:=⟨zL,y0,AI⟩
def yi {α:Type}(lt:α->α->Bool)(x:α):List α->List α
 | []=>[x]
 |y::r=>if lt x y=true then x::y::r else y::yi lt x r
def bj {α:Type}(lt:α->α->Bool):List α->List α
 | []=>[]
 |x::r=>yi lt x (bj lt r)
section
variable {α:Type}{lt:α->α->Bool}
theorem n4(x:α): ∀l:List α,(yi lt x l).Perm (x::l)
 | []=>.refl _
 |y::r=>by
  unfold yi;split
  ·exact .refl _
  ·exact((n4 x r).cons y).trans (.swap _ _ _)
theorem aS: ∀l:List α,(bj lt l).Perm l
 | []=>.refl _
 |x::r=>(n4 x _).trans ((aS r).cons x)
theorem Aq(O:Lt lt)(x:α): ∀ {l:List α},l.Pairwise (λa b=>lt b a=false)->(yi lt x l).Pairwise (λa b=>lt b a=false)
 | [],_=>by simp[yi]
 |y::r,h=>by
  obtain⟨h1,h2⟩:=QA.mp h;unfold yi;split
  ·rename_i e
   refine QA.mpr ⟨λz hz=>?_,h⟩;rcases Oc.mp hz with rfl|hz
   ·exact O.as e
   ·exact O.tr (O.as e) (h1 z hz)
  ·rename_i e
   refine QA.mpr ⟨λz hz=>?_,Aq O x h2⟩;rcases Oc.mp ((n4 x r).mem_iff.mp hz) with rfl|hz
   ·simpa using e
   ·exact h1 z hz
theorem kA(O:Lt lt): ∀l:List α,(bj lt l).Pairwise (λa b=>lt b a=false)
 | []=>.nil
 |x::r=>Aq O x (kA O r)
theorem kP(O:Lt lt){l l':List α}(p:l'.Perm l)(s:l'.Pairwise (λa b=>lt b a=false)):l'=bj lt l:=
 List.Perm.eq_of_pairwise (λa b _ _ h1 h2=>O.eq h2 h1) s (kA O l) (p.trans (aS l).symm)
theorem lI(ts:List α)(d:α):(ND ts.length).map (λi=>ts.getD i d)=ts:=Sf λi=>by
 by_cases hi:i<ts.length
 ·simp[hi]
 ·simp[hi]
theorem j2(O:Lt lt){ts:List α}{d:α}{p:Array Nat}(P:Pm ts.length p)(S:Srt (λi j=>lt (ts.getD i d) (ts.getD j d)) p ts.length):p.toList.map (λi=>ts.getD i d)=bj lt ts:=by
 refine kP O ?_ ?_
 ·have h1:p.toList.Perm (ND ts.length):=by simpa using (Tq.mp P.perm)
  have h2:=h1.map (λi=>ts.getD i d);rw[lI] at h2;exact h2
 ·rw[OY,Qc];intro i j hi hj hij;have hz:=P.size;have e:=S i j (by omega) (by simpa [hz] using hj);have g: ∀k (hk:k<p.toList.length),p.getD k 0=p.toList[k]:=λk hk=>by
   have:k<p.size:=by simpa using hk
   simp[Q7,this]
  rw[g i hi,g j hj] at e;exact e
theorem Es(O:Lt lt)(f:Nat->α):Od (λi j=>lt (f i) (f j)):=⟨λh1 h2=>O.tr h1 h2,λh=>O.as h⟩
end
def yq:D->Option (List Int)
 | .tup ds=>match fR ds with
   |some (x::r)=>some (x::r)
   |_=>none
 |_=>none
def mh:List D->Option (List (List Int))
 | []=>some []
 |d::r=>(yq d).bind λk=>(mh r).map (k:: ·)
def de(k:List Int):D:=.tup (k.map D.int)
def hW(ds:List D):Option (List D):=if ds.length<64 then match fR ds with
 |some ns=>some ((bj Bj ns).map D.int)
 |none=>(mh ds).map λks=>(bj bu ks).map de else none
theorem mU(ns:List Int):fR (ns.map D.int)=some ns:=by
 induction ns with
 |nil=>rfl
 |cons n ns ih=>show(fR (ns.map D.int)).map (n:: ·)=_;rw[ih];rfl
theorem GF {d:D}{k:List Int}(h:yq d=some k):d=de k/\k≠[]:=by
 unfold yq at h;split at h
 ·split at h
  ·rename_i e;cases h;rw[iL e];exact⟨rfl,by simp⟩
  ·cases h
 ·cases h
theorem FB {k:List Int}(h:k≠[]):yq (de k)=some k:=by
 unfold yq de;dsimp only;rw[mU];cases k with
 |nil=>exact absurd rfl h
 |cons x r=>rfl
theorem qO: ∀ {ds:List D} {ks:List (List Int)},mh ds=some ks->ds=ks.map de/\ ∀k∈ks,k≠[]
 | [],_,h=>by cases h;exact⟨rfl,λ_ h=>nomatch h⟩
 |d::r,ks,h=>by
  unfold mh at h;cases e1:yq d with
  |none=>rw[e1] at h;cases h
  |some k=>
   rw[e1] at h;cases e2:mh r with
   |none=>rw[e2] at h;cases h
   |some l=>
    rw[e2] at h;cases h;obtain⟨h1,h2⟩:=GF e1;obtain⟨h3,h4⟩:=qO e2;refine⟨by rw[h1,h3];rfl,λz hz=>?_⟩;rcases Oc.mp hz with rfl|hz
    ·exact h2
    ·exact h4 z hz
theorem vi: ∀ {ks:List (List Int)},(∀k∈ks,k≠[])->mh (ks.map de)=some ks
 | [],_=>rfl
 |k::r,h=>by
  show(yq (de k)).bind (λk'=>(mh (r.map de)).map (k':: ·))=_;rw[FB (h k (by simp)),vi λz hz=>h z (by simp[hz])];rfl
theorem BK {k:List Int}{ks:List (List Int)}:fR ((k::ks).map de)=none:=rfl
theorem jA {α:Type}{lt:α->α->Bool}{l:List α}(h:l.length<2):bj lt l=l:=by
 match l,h with
 | [],_=>rfl
 | [_],_=>rfl
theorem oC {xs:List V}{us:List NG}(r:Vals xs us)(i:Nat):RelV (xs.getD i .non) (us.getD i OP):=by
 cases e:xs[i]? with
 |none=>
  have hl:=r.length;have:us[i]? =none:=by simp at e⊢;omega
  simp[OJ,e,this];rfl
 |some x=>
  obtain⟨u,h1,h2⟩:=r.get e;simp[OJ,e,h1];exact h2
theorem n6 {xs:List V}{us:List NG}(r:Vals xs us): ∀ix:List Nat,Vals (ix.map λi=>xs.getD i .non) (ix.map λi=>us.getD i OP)
 | []=>.nil
 |i::l=>.cons (oC r i) (n6 r l)
theorem sK {K:NU}{F:Hp}{xs:List V}{ds:List D}(r:Reps K F xs ds)(i:Nat):Rep K F (xs.getD i .non) (ds.getD i .non):=by
 cases e:ds[i]? with
 |none=>
  have hl:=r.length;have:xs[i]? =none:=by simp at e⊢;omega
  simp[OJ,e,this];exact .non
 |some x=>
  obtain⟨u,h1,h2⟩:=r.get e;simp[OJ,e,h1];exact h2
theorem oz {K:NU}{F:Hp}{xs:List V}{ds:List D}(r:Reps K F xs ds): ∀ix:List Nat,Reps K F (ix.map λi=>xs.getD i .non) (ix.map λi=>ds.getD i .non)
 | []=>.nil
 |i::l=>.cons (sK r i) (oz r l)
def ui:List NG->List Int->Prop:=Paired λu i=> ∃t,u=Tf i t
theorem tU {K:NU}{F:Hp}: ∀ {xs:List V} {us:List NG} {ns:List Int},Vals xs us->Reps K F xs (ns.map D.int)->ui us ns
 |_,_,[],r,p=>by cases p;cases r;exact .nil
 |_,_,n::ns,r,p=>by
  cases p with
  |cons p1 p2=>cases r with
   |cons r1 r2=>cases p1;exact .cons r1 (tU r2 p2)
theorem wJ: ∀ {us:List NG} {ns:List Int} {i:Nat} {u:NG},ui us ns->us[i]? =some u-> ∃n,ns[i]? =some n/\ ∃t,u=Tf n t
 |_,_,_,_,.nil,e=>by simp at e
 |_,_,0,_,.cons h _,e=>by simp at e;subst e;exact⟨_,rfl,h⟩
 |_,_,i+1,u,.cons _ r,e=>by
  obtain⟨n,h1,h2⟩:=wJ (i:=i) (u:=u) r (by simpa using e);exact⟨n,by simpa using h1,h2⟩
section
variable {prog:OI}{w:OT}{A:OL}{s:NH}{b fin:Bool}{Q:Bool->NH->Prop}
theorem uU: ∀ {us ws:List NG} {ns ms:List Int} (i:Nat),ui us ns->ui ws ms->fin=decide (ns.length<ms.length)->Q (bu ns ms) s->KatLex prog w A b fin Q (us.zip ws) i s
 |_,_,[],[],i,.nil,.nil,e,q=>by subst e;exact kat_nil q
 |_,_,[],m::ms,i,.nil,.cons _ _,e,q=>by subst e;simp only[List.zip_nil_left];refine kat_nil ?_;simpa [bu] using q
 |_,_,n::ns,[],i,.cons _ _,.nil,e,q=>by subst e;simp only[List.zip_nil_right];refine kat_nil ?_;simpa [bu] using q
 |_,_,n::ns,m::ms,i,.cons h1 r1,.cons h2 r2,e,q=>by
  obtain⟨t,rfl⟩:=h1;obtain⟨t',rfl⟩:=h2;rw[VP];refine kat_cons (Wu (kat_go (λhe=>?_) λhe=>?_))
  ·have:n=m:=by simpa using he
   subst this;refine kat_yes (uU (i+1) r1 r2 (by rw[e];simp) ?_);simpa [bu] using q
  ·have:n≠m:=by simpa using he
   have q':Q (decide (n<m)) s:=by simpa [bu,this] using q
   refine kat_no ?_
   cases (b&&i==0) with
   |true=>exact oneLt_int q'
   |false=>exact kat_one _ _ (lt_int q')
end
theorem fS {X:Cx}:dB X (.builtin "sorted") (λxs H Q=> ∃a ys ds es,xs=[.ref a]/\(SqL X.K H a ys\/SqT X.K H a ys)/\Reps X.K H ys ds/\hW ds=some es/\
 ∀(l:Addr) (ix:List Nat),H l=none->ix.length=ds.length->ix.map (λi=>ds.getD i .non)=es->Q (.ref l) (cm H l (.lst (ix.map λi=>ys.getD i .non)))):=by
 intro ah s σ H xs us Q I r h;obtain⟨a,ys,ds,es,rfl,hsq,rp,hs,q⟩:=h;obtain⟨u,rfl,rx⟩:=jN r;cases rx;obtain⟨its,T,o,n,rv,hT,ho,hc,hd⟩: ∃(its:List NG) (T:String) (o:Obj) (n:Nat),Vals ys its/\(T="list"\/T="tuple")/\s.heap.get? a=some o/\o.cls=.type T/\o.data=.seq its.toArray n:=by
  rcases hsq with hq|hq
  ·obtain⟨its,r',pl,hz⟩:=I.list hq;obtain⟨o,ho,hc,n,hd⟩:=pl.isList;exact⟨its,"list",o,n,r',.inl rfl,ho,hc,hd⟩
  ·obtain⟨its,r',pl,hz⟩:=I.tuple hq;obtain⟨o,ho,hc,n,hd⟩:=pl;exact⟨its,"tuple",o,n,r',.inr rfl,ho,hc,hd⟩
 have l1:=rv.length;have l2:=rp.length;have h64:ds.length<64:=by
  unfold hW at hs;split at hs
  ·assumption
  ·cases hs
 unfold hW at hs;rw[if_pos h64] at hs;refine tj (G:=λix=>ix.length=ds.length/\ix.map (λi=>ds.getD i .non)=es) hT ho hc hd (by omega) (λfew=>⟨by simp;omega,?_⟩) (λh2 g kg=>?_) (λg p e ix kg hp hG hg=>?_)
 ·rw[show its.length=ds.length by omega,lI];cases e1:fR ds with
  |some ns=>
   rw[e1] at hs;cases hs;have:=iL e1;subst this;rw[jA (by simp at l2;omega)]
  |none=>
   rw[e1] at hs;cases e2:mh ds with
   |none=>rw[e2] at hs;cases hs
   |some ks=>
    rw[e2] at hs;cases hs;obtain⟨h3,_⟩:=qO e2;subst h3;dsimp only;rw[jA (by simp at l2;omega)]
 ·cases e1:fR ds with
  |some ns=>
   rw[e1] at hs;cases hs;have e0:=iL e1;subst e0;have hv:=tU rv rp;have hl:its.length=ns.length:=by simp at l2;omega
   have gi: ∀i,i<ns.length-> ∃t,its.getD i OP=Tf (ns.getD i 0) t:=λi hi=>by
    have e2:its[i]? =some its[i]:=NL (by omega);obtain⟨m,e3,t,e4⟩:=wJ hv e2;refine⟨t,?_⟩;simp[OJ,e2,e3,e4]
   refine kas_kind (T:=.type "int") h2 (λv hv'=>?_) (by rfl) (by rfl) ⟨rfl,?_⟩
   ·obtain⟨i,hi,rfl⟩:=S4 hv';obtain⟨t,e⟩:=gi i (by omega);have:its[i]=its.getD i Value.none:=by simp[OJ,NL hi]
    rw[this,e];exact YC
   ·rw[hl];refine tW (b:=λi j=>Bj (ns.getD i 0) (ns.getD j 0)) (Es G0 _) (by omega) (λi j C hi hj hC=>?_) λp P S=>⟨rfl,?_,?_⟩
    ·obtain⟨t,e⟩:=gi i hi;obtain⟨t',e'⟩:=gi j hj;unfold We;rw[e,e'];exact kat_lt_int hC
    ·rw[N4,P.size];simp
    ·have:=congrArg (XE D.int) (j2 G0 P S);rw[<-this,N6];refine Oq λi hi=>?_
     have:i<ns.length:=by
      have:=P.perm.mem_iff.mp (QP.mp hi);simpa using this
     simp[OJ,NL this]
  |none=>
   rw[e1] at hs;cases e2:mh ds with
   |none=>rw[e2] at hs;cases hs
   |some ks=>
    rw[e2] at hs;cases hs;obtain⟨h3,h4⟩:=qO e2;subst h3;have hl:its.length=ks.length:=by simp at l2;omega
    have gi: ∀i,i<ks.length-> ∃(b:Addr) (o:Obj) (ts:List NG) (n:Nat),its.getD i OP=.ref b/\s.heap.get? b=some o/\o.cls=.type "tuple"/\o.data=.seq ts.toArray n/\ui ts (ks.getD i []):=λi hi=>by
     have r1:=oC rv i;have r2:=sK rp i;have e3:(ks.map de).getD i .non=.tup ((ks.getD i []).map D.int):=by simp[OJ,NL hi,de]
     rw[e3] at r2;generalize hx:ys.getD i .non=x at r1 r2;cases r2 with
     |tup q1 q2=>
      obtain⟨ts,r',⟨o,ho,hc,n,hd⟩,_⟩:=I.tuple q1;exact⟨_,o,ts,n,r1,ho,hc,hd,tU r' q2⟩
    have kt: ∀(l:List NG) (ms:List (List Int)),l.length=ms.length->(∀i,i<ms.length-> ∃(b:Addr) (o:Obj) (ts:List NG) (n:Nat),l.getD i OP=.ref b/\s.heap.get? b=some o/\o.cls=.type "tuple"/\o.data=.seq ts.toArray n/\ui ts (ms.getD i []))->(∀k∈ms,k≠[])->
     ∃fs,KatTups g l fs/\fs.length=l.length/\ ∀v∈fs,∃i t,v=Tf i t:=by
     intro l
     induction l with
     |nil=>intro ms _ _ _;exact⟨[],.nil,rfl,λ_ h=>nomatch h⟩
     |cons v l ih=>
      intro ms hl hg hk;cases ms with
      |nil=>cases hl
      |cons m ms=>
       obtain⟨fs,f1,f2,f3⟩:=ih ms (by simpa using hl) (λi hi=>by simpa using hg (i+1) (by simpa using hi)) λk hk'=>hk k (by simp[hk'])
       obtain⟨b,o,ts,n,g1,g2,g3,g4,g5⟩:=hg 0 (by simp);simp[OJ] at g1 g5;subst g1;cases m with
       |nil=>exact absurd rfl (hk [] (by simp))
       |cons x xs=>
        cases g5 with
        |cons y1 y2=>
         obtain⟨t,rfl⟩:=y1;refine⟨_,Zj (kg _ _ g2) g3 g4 (by simp;rfl) f1,by simp[f2],λv hv=>?_⟩;rcases Oc.mp hv with rfl|hv
         ·exact⟨_,_,rfl⟩
         ·exact f3 v hv
    obtain⟨fs,f1,f2,f3⟩:=kt its ks hl gi h4;refine kat_kind (T:=.type "int") f1 (by omega) (λv hv=>?_) (by rfl) ⟨rfl,?_⟩
    ·obtain⟨i,t,rfl⟩:=f3 v hv;exact YC
    ·rw[hl];refine tW (b:=λi j=>bu (ks.getD i []) (ks.getD j [])) (Es ym _) (by omega) (λi j C hi hj hC=>?_) λp P S=>⟨rfl,?_,?_⟩
     ·obtain⟨b1,o1,ts1,n1,x1,x2,x3,x4,x5⟩:=gi i hi;obtain⟨b2,o2,ts2,n2,y1,y2,y3,y4,y5⟩:=gi j hj;unfold We;rw[x1,y1];refine kat_lt (kg _ _ x2) x4 (kg _ _ y2) y4 ?_
      refine uU 0 x5 y5 ?_ hC;have z1:=RH x5;have z2:=RH y5;simp[z1,z2]
     ·rw[N4,P.size];simp
     ·have:=congrArg (XE de) (j2 ym P S);dsimp only;rw[<-this,N6];refine Oq λi hi=>?_
      have:i<ks.length:=by
       have:=P.perm.mem_iff.mp (QP.mp hi);simpa using this
      simp[OJ,NL this]
 ·refine⟨.ref p,_,I.laid (t':=s.toks) kg hp (show ObjOk X.prog X.w _ g _ (.lst (ix.map λi=>ys.getD i .non)) from⟨?_,_,e,n6 rv ix,hg⟩),rfl,q _ ix (I.hok.fresh hp) hG.1 hG.2⟩;rw[NK,hG.1,PB];omega
def cO:List D->Option D
 | [.lst ds]=>(hW ds).map D.lst
 | [.tup ds]=>(hW ds).map D.lst
 |_=>none
theorem ir {K:NU}:gc K .n (λxs H Q=> ∃a ys ds es,xs=[.ref a]/\(SqL K H a ys\/SqT K H a ys)/\Reps K H ys ds/\hW ds=some es/\
 ∀(l:Addr) (ix:List Nat),H l=none->ix.length=ds.length->ix.map (λi=>ds.getD i .non)=es->Q (.ref l) (cm H l (.lst (ix.map λi=>ys.getD i .non)))) cO:=by
 intro H hid vs ds d Q hf h r q;unfold cO at h;split at h
 ·rename_i zs
  cases e:hW zs with
  |none=>rw[e] at h;cases h
  |some es=>
   rw[e] at h;cases h;obtain⟨x,rfl,r1⟩:=Reps1.one r;obtain⟨a,xs,rfl,h1,h2⟩:=r1.lst;refine⟨a,xs,zs,es,rfl,.inl h1,h2.mono (di _ _),e,λl ix hl _ he=>q _ _ (bf hl _) (gw hl (Same.refl _) ?_)⟩;rw[<-he];exact oz h2 ix
 ·rename_i zs
  cases e:hW zs with
  |none=>rw[e] at h;cases h
  |some es=>
   rw[e] at h;cases h;obtain⟨x,rfl,r1⟩:=Reps1.one r;obtain⟨a,xs,rfl,_,h1,h2⟩:=r1.tup;refine⟨a,xs,zs,es,rfl,.inr h1,h2.mono (di _ _),e,λl ix hl _ he=>q _ _ (bf hl _) (gw hl (Same.refl _) ?_)⟩;rw[<-he];exact oz h2 ix
 ·cases h
section
variable {X:Cx}{c:Ct}{e a b:Expr}{es rest:List Expr}{f g:GE}{fs:GA}{k:Kd}{pos p:Pos}{x:Str}{id T:String}{r:List V->Hp->VK->Prop}{F:List D->Option D}{ps:List Str}{j n:Nat}
theorem KC {r:R2}{F:D->D->Option D}(hr:IxR X r)(hF:oY X.K k r F)(ha:DE X c .s a f)(hb:DE X c .s b g)(hs:tP b)(hk:k≠ .b:=by decide):DE X c k (.Subscript a b pos) (xo F f g):=λhid ρ=>
 PE.imp (HN hr (ha hid ρ) (uM λρ1=>hb hid ρ1) hs) λσ H Q h=>Mr hF hk h
theorem Reps.b1 {K:NU}{H W:Hp}: ∀ {vs:List V} {ds:List D},Reps K W vs ds->Reps1 K H W vs ds
 |_,_,.nil=>.nil
 |_,_,.cons r t=>.cons (.inl r) (Reps.b1 t)
def jS(F:List D->Option D)(fs:GA):GE:=λρ=>(fs ρ).bind λq=>(F q.1).map λd=>(d,q.2)
theorem xF {F:List D->Option D}{ρ ρ':aF}{d:D}(h:jS F fs ρ=some (d,ρ')): ∃ds,fs ρ=some (ds,ρ')/\F ds=some d:=by
 unfold jS at h;cases e:fs ρ with
 |none=>rw[e] at h;cases h
 |some q=>
  rw[e] at h;dsimp only[Rz] at h;cases e2:F q.1 with
  |none=>rw[e2] at h;cases h
  |some z=>rw[e2] at h;cases h;exact⟨q.1,rfl,e2⟩
theorem Lv {hid:bN}{ρ:aF}(hF:gc X.K k r F)(hk:k≠ .b){σ:St}{H:Hp}{Q:VK}(h:J7 X.K c hid k (jS F fs) ρ σ H Q):KU r (No X.K c hid fs ρ) σ H Q:=by
 obtain⟨sr,d,ρ',hd,q⟩:=h;obtain⟨ds,e1,e2⟩:=xF hd;exact⟨sr,ds,ρ',e1,λvs H1 k1 s1 r1=>hF H1 hid vs ds d Q (λa n=>s1.fresh n) e2 r1.b1 λw H' s2 r2=>q w H' (PostE.left k1 (s1.post s2 r2 hk))⟩
theorem DJ(hc:dB X (.builtin id) r)(hF:gc X.K k r F)(hm:X.mg x=none)(ha:DG X c (e::es) fs)(hk:k≠ .b:=by decide)(hg:Gl X x:=by rfl)(hv:PF x=some (.builtin id):=by kernel_rfl)(hn:x≠"__name__":=by decide)(hdb:(x==("__debug__":Str))=false:=by decide)
 (he:N8 (e::es) X.env=(false,eval e X.env)::N8 es X.env:=by rfl) (hpl:(Ql pos (N8 es X.env)).any (·.1)=false:=by rfl):DE X c k (.Call (.Name x p) (e::es) [] pos) (jS F fs):=λhid ρ=>
 PE.imp (qQ hc hg hm hv (ha hid ρ) hn hdb he hpl) λσ H Q h=>Lv hF hk h
theorem BB(hc:dB X (.type T) r)(hF:gc X.K k r F)(hm:X.mg x=none)(ha:DG X c (e::es) fs)(hk:k≠ .b:=by decide)(hg:Gl X x:=by rfl)(hv:PF x=some (.type T):=by kernel_rfl)(hn:x≠"__name__":=by decide)(hdb:(x==("__debug__":Str))=false:=by decide)
 (he:N8 (e::es) X.env=(false,eval e X.env)::N8 es X.env:=by rfl) (hpl:(Ql pos (N8 es X.env)).any (·.1)=false:=by rfl):DE X c k (.Call (.Name x p) (e::es) [] pos) (jS F fs):=λhid ρ=>
 PE.imp (kH hc hg hm hv (ha hid ρ) hn hdb he hpl) λσ H Q h=>Lv hF hk h
end
section
variable {prog:OI}{w:OT}{A:OL}{R:T3->NH->Prop}{s:NH}{elt t1 t2 i1 i2:Expr}{ifs1 ifs2:List Expr}{scope:Qr}{pos:Pos}{it acc:NG}{env:Env}
theorem Hm:Wa (.ListComp elt [⟨t1,i1,ifs1,0⟩,⟨t2,i2,ifs2,0⟩] scope pos) 1 it acc env=(do
 TL i2.pos
 match <-R8 it with
 |none=>pure (.done .next)
 |some v=>
  QM t2 it v
  Q2 t2 env v
  let ok <-mI ifs2 env
  if ok=true then do(do let _ <-call (.builtin "list.append") [acc,<-eval elt env]);U4 (.compLoop (.ListComp elt [⟨t1,i1,ifs1,0⟩,⟨t2,i2,ifs2,0⟩] scope pos) 1 it acc env)
  else U4 (.compLoop (.ListComp elt [⟨t1,i1,ifs1,0⟩,⟨t2,i2,ifs2,0⟩] scope pos) 1 it acc env)):=by rfl
theorem Dv:Wa (.ListComp elt [⟨t1,i1,ifs1,0⟩,⟨t2,i2,ifs2,0⟩] scope pos) 0 it acc env=(do
 TL i1.pos
 match <-R8 it with
 |none=>pure (.done .next)
 |some v=>
  QM t1 it v
  Q2 t1 env v
  let ok <-mI ifs1 env
  if ok=true then do
   let x <-eval i2 env
   TL i2.pos
   let x <-O6 i2 env x
   let _ <-runOwn (.compStart (.ListComp elt [⟨t1,i1,ifs1,0⟩,⟨t2,i2,ifs2,0⟩] scope pos) 1 (<-TJ [x] (U3 x)) acc env) env
   U4 (.compLoop (.ListComp elt [⟨t1,i1,ifs1,0⟩,⟨t2,i2,ifs2,0⟩] scope pos) 0 it acc env)
  else U4 (.compLoop (.ListComp elt [⟨t1,i1,ifs1,0⟩,⟨t2,i2,ifs2,0⟩] scope pos) 0 it acc env)):=by rfl
abbrev D1:=(NH->Prop)->NH->Prop
def zB(prog:OI)(w:OT)(A:OL)(elt:Expr)(acc:NG)(env:Env):D1:=λQ s=>
 N1 (model prog w) A (eval elt env) (λx s₄=>N1 (model prog w) A (call (.builtin "list.append") [acc,x]) (λ_ s₅=>Q s₅) (λ_ _=>False) s₄) (λ_ _=>False) s
def uJ(prog:OI)(w:OT)(A:OL)(e iter:Expr)(acc:NG)(env:Env):D1:=λQ s=>
 N1 (model prog w) A (eval iter env) (λx s₄=>N1 (model prog w) A (U3 x) (λit s₅=>Qp (model prog w) A (.compStart e 1 it acc env) (λr s'=>match r with
  | .ok _=>Q s'
  | .error _=>False) s₅) (λ_ _=>False) s₄) (λ_ _=>False) s
def C4(prog:OI)(w:OT)(A:OL)(code:Code)(tg:Expr)(ifs:List Expr)(it:NG)(env:Env)(TA:D1)(R:T3->NH->Prop):Prop:= ∀(I:Nat->NH->Prop),
 (∀n s,I n s->N1 (model prog w) A (R8 it) (λr s₁=>match r with
   |none=>R (.ok .next) s₁
   |some v=>N1 (model prog w) A (QM tg it v) (λ_ s₁=>N1 (model prog w) A (Q2 tg env v) (λ_ s₂=>
     N1 (model prog w) A (mI ifs env) (λok s₃=>
      if ok=true then TA (λs₅=> ∃m,m<n/\I m s₅) s₃
      else∃m,m<n/\I m s₃) (λ_ _=>False) s₂) (λ_ _=>False) s₁) (λ_ _=>False) s₁) (λ_ _=>False) s)->
 ∀(n:Nat) (s:NH),I n s->Qp (model prog w) A code R s
theorem ER:C4 prog w A (.compLoop (.ListComp elt [⟨t1,i1,ifs1,0⟩,⟨t2,i2,ifs2,0⟩] scope pos) 1 it acc env) t2 ifs2 it env (zB prog w A elt acc env) R:=by
 intro I turn n s h;have no: ∀ {E':NG->NH->Prop} (x:NG) (s:NH),False->E' x s:=λ_ _ z=>z.elim
 refine V9 rfl I (λn s hI=>?_) n h;show N1 _ A ((Wa (.ListComp elt [⟨t1,i1,ifs1,0⟩,⟨t2,i2,ifs2,0⟩] scope pos) 1 it acc env).onRaise (λx=>do WD x env;UK x)) _ _ s;refine WO ?_
 rw[Hm];refine NE (Qi (NE (OM (turn n s hI) (λr s₁ h₁=>?_) no)));cases r with
 |none=>exact NJ h₁
 |some v=>
  refine NE (OM h₁ (λ_ s₁ h₁=>NE (OM h₁ (λ_ s₂ h₂=>NE (OM h₂ (λok s₃ h₃=>?_) no)) no)) no);cases ok with
  |false=>exact NJ ⟨rfl,h₃⟩
  |true=>exact NE (NE (OM h₃ (λx s₄ h₄=>NE (OM h₄ (λ_ s₅ h₅=>NJ (NJ ⟨rfl,h₅⟩)) no)) no))
theorem A6(hset: ∀x,O6 i2 env x=pure x):C4 prog w A (.compLoop (.ListComp elt [⟨t1,i1,ifs1,0⟩,⟨t2,i2,ifs2,0⟩] scope pos) 0 it acc env) t1 ifs1 it env (uJ prog w A (.ListComp elt [⟨t1,i1,ifs1,0⟩,⟨t2,i2,ifs2,0⟩] scope pos) i2 acc env) R:=by
 intro I turn n s h;have no: ∀ {E':NG->NH->Prop} (x:NG) (s:NH),False->E' x s:=λ_ _ z=>z.elim
 refine V9 rfl I (λn s hI=>?_) n h;show N1 _ A ((Wa (.ListComp elt [⟨t1,i1,ifs1,0⟩,⟨t2,i2,ifs2,0⟩] scope pos) 0 it acc env).onRaise (λx=>do WD x env;UK x)) _ _ s;refine WO ?_
 rw[Dv];refine NE (Qi (NE (OM (turn n s hI) (λr s₁ h₁=>?_) no)));cases r with
 |none=>exact NJ h₁
 |some v=>
  refine NE (OM h₁ (λ_ s₁ h₁=>NE (OM h₁ (λ_ s₂ h₂=>NE (OM h₂ (λok s₃ h₃=>?_) no)) no)) no);cases ok with
  |false=>exact NJ ⟨rfl,h₃⟩
  |true=>
   refine NE (OM h₃ (λx s₄ h₄=>NE (Qi (NE (Vb (hset x) (NE (O5 (OM h₄ (λit2 s₅ h₅=>?_) no))))))) no);refine NE (wpAny_runOwn (Rb h₅ λr s' hr=>?_));cases r with
   |ok f=>exact NJ ⟨rfl,hr⟩
   |error e=>exact hr.elim
end
def qV(g:FG)(p:FT)(A:FA)(ρ0:aF):List D->Option (List D)
 | []=>some []
 |d::r=>(g d ρ0).bind λρ1=>(p ρ1).bind λb=>if b=true then(A ρ1).bind λys=>(qV g p A ρ0 r).map (ys++ ·) else qV g p A ρ0 r
def Ms(n:Nat)(ρ:aF):Prop:= ∀(i:Nat) (s:Sl),n<=i->ρ[i]? =some s->s=.no
def Da(Y:Cx)(c:Ct)(hid:bN)(D0:Addr)(L W:Hp)(A:FA)(TA:D1)(ρ1:aF):Prop:= ∀(ah:List (Addr×Obj)) (s:NH) (σ:St) (H:Hp) (xs:List V) (ad zs:List D) (Q:NH->Prop),Inv Y ah σ H s->SR Y.K c hid ρ1 σ H->
 H D0=some (.lst xs)->Reps Y.K (vw H hid) xs ad->xs.length+zs.length<=Oi->Same L H->Same W (vw H hid)->(∀i:Nat,Ow ρ1[i]? ->σ[i]? ≠some (some (.ref D0)))->A ρ1=some zs->
 (∀(s':NH) (σ':St) (H':Hp) (xs':List V),Inv Y ah σ' H' s'->SR Y.K c hid ρ1 σ' H'->H' D0=some (.lst xs')->Reps Y.K (vw H' hid) xs' (ad++zs)->Same L H'->Same (vw H hid) (vw H' hid)->(∀i:Nat,Ow ρ1[i]? ->σ'[i]? ≠some (some (.ref D0)))->Q s')->TA Q s
section
variable {Y:Cx}{c:Ct}{tg:Expr}{ifs:List Expr}{g:FG}{p:FT}{A:FA}{TA:D1}{code:Code}
structure CLG(Y:Cx)(ah:List (Addr×Obj))(c:Ct)(hid:bN)(ρ0:aF)(L W H3:Hp)(D0:Addr)(fp:List Addr)(tn:Nat->Heap->Prop)(g:FG)(p:FT)(A:FA)(ds ys ad0:List D)(n i:Nat)(xs:List V)(ad:List D)(σ':St)(H':Hp)(s':NH):Prop where
 e:n=ds.length-i
 hi:i<=ds.length
 I:Inv Y ah σ' H' s'
 st:tn i s'.heap
 fr: ∀b∈fp,H' b=none
 sr:SR Y.K c hid ρ0 σ' H'
 sm:Same L H'
 ac:H' D0=some (.lst xs)
 rp:Reps Y.K (vw H' hid) xs ad
 w:Same W (vw H' hid)
 v:Same (vw H3 hid) (vw H' hid)
 na: ∀i:Nat,Ow ρ0[i]? ->σ'[i]? ≠some (some (.ref D0))
 go: ∃rest,qV g p A ρ0 (ds.drop i)=some rest/\ad++rest=ad0++ys
theorem vp(hcalm:Y.calm=true)(hxe:Y.xe=λ_ _=>False){n0:Nat}(hT:jv n0 g)(hg:tx Y c tg g)(hp:u2 Y c ifs p)
 {ah:List (Addr×Obj)} {σ3:St} {H3 L W:Hp} {s4:NH} {hid:bN} {ρ0:aF} {J:It} {it D0:Addr} {fp:List Addr} {tn:Nat->Heap->Prop} {ds ys ad0:List D} {xs0:List V} {R:T3->NH->Prop}
 (hA: ∀d ρ1,g d ρ0=some ρ1->Da Y c hid D0 L W A TA ρ1)
 (hN:Ms n0 ρ0) (I:Inv Y ah σ3 H3 s4) (sr:SR Y.K c hid ρ0 σ3 H3) (hh:hid D0=true) (na: ∀i:Nat,Ow ρ0[i]? ->σ3[i]? ≠some (some (.ref D0))) (hacc:H3 D0=some (.lst xs0)) (rp0:Reps Y.K (vw H3 hid) xs0 ad0) (sm:Same L H3) (wv:Same W (vw H3 hid)) (T:Turn Y.prog Y.w Y.K tg J fp it tn) (st:tn 0 s4.heap) (hF: ∀b∈fp,jB Y ah H3 b)
 (io:Ld Y.K L W J ds) (hz:ad0.length+ys.length<=Oi) (hc:qV g p A ρ0 ds=some ys)
 (hTP:C4 Y.prog Y.w Y.A code tg ifs (.ref it) Y.env TA R)
 (hR: ∀(s':NH) (σ':St) (H':Hp) (xs:List V),Inv Y ah σ' H' s'->SR Y.K c hid ρ0 σ' H'->Same L H'->H' D0=some (.lst xs)->Reps Y.K (vw H' hid) xs (ad0++ys)->Same (vw H3 hid) (vw H' hid)->(∀i:Nat,Ow ρ0[i]? ->σ'[i]? ≠some (some (.ref D0)))->R (.ok .next) s'):
 Qp (model Y.prog Y.w) Y.A code R s4:=by
 have stat: ∀ {H':Hp},(∀b∈fp,H' b=none)-> ∀b∈fp,jB Y ah H' b:=λ{H'} hn b hb=>⟨hn b hb,(hF b hb).2⟩
 refine hTP (λn s'=> ∃(i:Nat) (xs:List V) (ad:List D) (σ':St) (H':Hp),CLG Y ah c hid ρ0 L W H3 D0 fp tn g p A ds ys ad0 n i xs ad σ' H' s') ?_ ds.length s4
  ⟨0,xs0,ad0,σ3,H3,by simp,Pe _,I,st,λb hb=>(hF b hb).1,sr,sm,hacc,rp0,wv,Same.refl _,na,ys,by simpa using hc,rfl⟩
 rintro n s5 ⟨i,xs,ad,σ5,H5,rfl,hi,I5,st5,f5,sr5,sm5,ac5,rp5,w5,v5,na5,rest,hc5,hy5⟩;have wH:Same W H5:=w5.trans (di _ _)
 by_cases hlt:i<ds.length
 ·have hd:ds[i]? =some ds[i]:=NL hlt;have e2:ds.drop i=ds[i]::ds.drop (i+1):=PH hlt;rw[e2] at hc5;unfold qV at hc5;obtain⟨go,yl⟩:=io.1 i ds[i] H5 hd sm5 wH;refine bU (T.item Y rfl rfl rfl hcalm i ah s5 σ5 H5 (λ_ _=>False) I5 (stat f5) st5 go) λr s6 hq_=>?_
  obtain⟨u,hr,h6⟩:=hq_;subst hr;refine bU h6 λ_ s7 hq_=>?_
  obtain⟨x,H7,I7,r7,y7,st7,f7⟩:=hq_;obtain⟨s7',rp⟩:=yl x H7 y7;have rx:=rp hid sr5.tr w5;have I7':=I7.pinned (stat f7) (T.obj _ _ st7);cases e3:g ds[i] ρ0 with
  |none=>rw[e3] at hc5;cases hc5
  |some ρ1=>
   rw[e3] at hc5;have hc5:(p ρ1).bind (λb=>if b=true then(A ρ1).bind λys=>(qV g p A ρ0 (ds.drop (i+1))).map (ys++ ·) else qV g p A ρ0 (ds.drop (i+1)))=some rest:=hc5;obtain⟨tl1,tl2⟩:=hT _ _ _ e3;have fg: ∀ {σ':St} {H':Hp},SR Y.K c hid ρ1 σ' H'->SR Y.K c hid ρ0 σ' H':=λ{σ' H'} z=>z.forget tl1 λj s e=>by
    by_cases hj:j<n0
    ·exact .inr ((tl2 j hj).trans e)
    ·exact .inl (hN j s (by omega) e)
   have ow01: ∀j:Nat,Ow ρ0[j]? ->Ow ρ1[j]? :=λj o=>by
    by_cases hj:j<n0
    ·rw[tl2 j hj];exact o
    ·exfalso;cases e:ρ0[j]? with
     |none=>rw[e] at o;exact o
     |some s=>have:=hN j s (by omega) e;subst this;rw[e] at o;exact o
   have keepT: ∀ {σ':St} {H':Hp} {s':NH},Inv Y (ah++lJ fp s7.heap) σ' H' s'->tn (i+1) s'.heap/\ ∀b∈fp,H' b=none:=λ{σ' H' s'} J'=>by
    refine⟨T.keep _ _ _ st7 λb hb o e=>(J'.pin (b,o) (Op _ (Op _ (da hb e)))).1,λb hb=>?_⟩;obtain⟨o,e,_⟩:=T.obj _ _ st7 b hb;exact(J'.pin (b,o) (Op _ (Op _ (da hb e)))).2.1
   refine bU (hxe▸hg hid ρ0 ds[i] _ s7 σ5 H7 x u (λσ' H'=>H'=H7/\SR Y.K c hid ρ1 σ' H7/\OwK ρ0 ρ1 σ5 σ') I7' r7 ⟨sr5.ext s7',rx,ρ1,e3,λσ' z o=>⟨rfl,z,o⟩⟩) λ_ s8 hq_=>?_
   obtain⟨σ8,H8,I8,e8,q8,o8⟩:=hq_;subst e8;have na1: ∀j:Nat,Ow ρ1[j]? ->σ8[j]? ≠some (some (.ref D0)):=λj o=>by
    rw[(o8 j o).2];exact na5 j (o8 j o).1
   cases e4:p ρ1 with
   |none=>rw[e4] at hc5;cases hc5
   |some b=>
    rw[e4] at hc5;have hc5:(if b=true then(A ρ1).bind λys=>(qV g p A ρ0 (ds.drop (i+1))).map (ys++ ·) else qV g p A ρ0 (ds.drop (i+1)))=some rest:=hc5;refine bU (hxe▸hp hid ρ1 _ s8 σ8 H8 (λb' H'=>b'=b/\Same H8 H') I8 ⟨q8,b,e4,λH' s'=>⟨rfl,s'⟩⟩) λok s9 hq_=>?_
    obtain⟨H9,I9,e9,sm9⟩:=hq_;subst e9;have w9:Same (vw H5 hid) (vw H9 hid):=aY (s7'.trans sm9);cases ok with
    |false=>
     have hc5:qV g p A ρ0 (ds.drop (i+1))=some rest:=hc5;obtain⟨k1,k2⟩:=keepT I9;exact⟨ds.length- (i+1),by omega,i+1,xs,ad,σ8,H9,rfl,hlt,I9.unpinned,k1,k2,fg (q8.ext sm9),sm5.trans (s7'.trans sm9),sm9 _ _ (s7' _ _ ac5),rp5.mono w9,w5.trans w9,v5.trans w9,λj o=>na1 j (ow01 j o),rest,hc5,hy5⟩
    |true=>
     have hc5:((A ρ1).bind λys=>(qV g p A ρ0 (ds.drop (i+1))).map (ys++ ·))=some rest:=hc5;cases e5:A ρ1 with
     |none=>rw[e5] at hc5;cases hc5
     |some zs=>
      rw[e5] at hc5;have hc5:(qV g p A ρ0 (ds.drop (i+1))).map (zs++ ·)=some rest:=hc5;cases e6:qV g p A ρ0 (ds.drop (i+1)) with
      |none=>rw[e6] at hc5;cases hc5
      |some rest'=>
       rw[e6] at hc5;cases hc5;have l1:=rp5.length;have l2:=congrArg Rx hy5;simp only[Of] at l2;refine hA ds[i] ρ1 e3 _ s9 σ8 H9 xs ad zs _ I9 (q8.ext sm9) (sm9 _ _ (s7' _ _ ac5)) (rp5.mono w9) (by omega) (sm5.trans (s7'.trans sm9)) (w5.trans w9) na1 e5 λs10 σ10 H10 xs' I10 q10 a10 rp10 smL v10 na10=>?_
       obtain⟨k1,k2⟩:=keepT I10;exact⟨ds.length- (i+1),by omega,i+1,xs',ad++zs,σ10,H10,rfl,hlt,I10.unpinned,k1,k2,fg q10,smL,a10,rp10,(w5.trans w9).trans v10,(v5.trans w9).trans v10,λj o=>na10 j (ow01 j o),rest',e6,by rw[<-hy5];simp⟩
 ·have e:i=ds.length:=by omega
  subst e;rw[Qw (NT _)] at hc5;cases hc5;rw[O2] at hy5;subst hy5;refine bU (T.done Y rfl rfl rfl hcalm ds.length ah s5 σ5 H5 (λ_ _=>False) I5 (stat f5) st5 (io.2 H5 sm5 wH)) λr s6 hq_=>?_
  obtain⟨hr,I6⟩:=hq_;subst hr;exact hR s6 σ5 H5 xs I6 sr5 sm5 ac5 rp5 v5 na5
end
def v0(f:FE):FA:=λρ=>(f ρ).map λd=>[d]
def Fi(gi:FA)(g:FG)(p:FT)(f:FE):FA:=λρ1=>(gi ρ1).bind λds=>qV g p (v0 f) ρ1 ds
def kl(m:Nat)(gi1:FA)(g1:FG)(p1:FT)(gi2:FA)(g2:FG)(p2:FT)(f:FE):FE:=λρ=>(gi1 ρ).bind λds=>(qV g1 p1 (Fi gi2 g2 p2 f) (ρ++NR m .no) ds).bind λys=>if ys.length<=Oi then some (.lst ys) else none
theorem BM {m:Nat}{gi1 gi2:FA}{g1 g2:FG}{p1 p2:FT}{f:FE}{ρ:aF}{d:D}(h:kl m gi1 g1 p1 gi2 g2 p2 f ρ=some d): ∃ds ys,gi1 ρ=some ds/\qV g1 p1 (Fi gi2 g2 p2 f) (ρ++NR m .no) ds=some ys/\ys.length<=Oi/\d=.lst ys:=by
 unfold kl at h;cases e1:gi1 ρ with
 |none=>rw[e1] at h;cases h
 |some ds=>
  rw[e1] at h;dsimp only[Rz] at h;cases e2:qV g1 p1 (Fi gi2 g2 p2 f) (ρ++NR m .no) ds with
  |none=>rw[e2] at h;cases h
  |some ys=>
   rw[e2] at h;dsimp only at h;split at h
   ·cases h;exact⟨ds,ys,rfl,e2, ‹_›,rfl⟩
   ·cases h
def CY(n:Nat)(g:FG):Prop:= ∀d (ρ0 ρ1:aF),g d ρ0=some ρ1-> ∀i:Nat,n<=i->ρ1[i]? =ρ0[i]?
def zn(n:Nat)(g:si):Prop:= ∀d (ρ0 ρ1:aF),g d ρ0=some ρ1-> ∀i:Nat,n<=i->ρ1[i]? =ρ0[i]?
theorem xT {n i:Nat}(h:i<n):CY n (gN i):=λd ρ0 ρ1 e=>by
 cases e;exact λj hj=>N7 (by omega)
theorem Fz {n:Nat}:zn n gU:=λd ρ0 ρ1 e=>by
 unfold gU at e;split at e
 ·cases e;exact λ_ _=>rfl
 ·cases e
theorem xc {n:Nat}{g:FG}{gs:si}(h1:CY n g)(h2:zn n gs):zn n (cQ g gs):=λd ρ0 ρ1 e=>by
 cases d with
 |nil=>cases e
 |cons d ds=>
  have e:(g d ρ0).bind (λρ'=>gs ds ρ')=some ρ1:=e;cases e1:g d ρ0 with
  |none=>rw[e1] at e;cases e
  |some ρ2=>
   rw[e1] at e;exact λi hi=>(h2 ds ρ2 ρ1 e i hi).trans (h1 d ρ0 ρ2 e1 i hi)
theorem L5 {n m:Nat}{gs:si}(h:zn n gs):CY n (gT m gs):=λd ρ0 ρ1 e=>by
 unfold gT at e;split at e
 ·split at e
  ·exact h _ _ _ e
  ·cases e
 ·cases e
section
variable {prog:OI}{w:OT}{A:OL}{R:T3->NH->Prop}{s:NH}{elt t1 t2 i1 i2:Expr}{ifs1 ifs2:List Expr}{scope:Qr}{pos:Pos}{it acc:NG}{env:Env}
theorem Cp
 (h0:Qp (model prog w) A (.compLoop (.ListComp elt [⟨t1,i1,ifs1,0⟩,⟨t2,i2,ifs2,0⟩] scope pos) 1 it acc env) R s)
 (h:N1 (model prog w) A (U3 it) (λit' s'=>Qp (model prog w) A (.compLoop (.ListComp elt [⟨t1,i1,ifs1,0⟩,⟨t2,i2,ifs2,0⟩] scope pos) 1 it' acc env) R s')
   (notedBy (model prog w) A env λx s'=>R (.error x) s') s):
 Qp (model prog w) A (.compStart (.ListComp elt [⟨t1,i1,ifs1,0⟩,⟨t2,i2,ifs2,0⟩] scope pos) 1 it acc env) R s:=by
 refine UL (show N1 _ _ ((compStart (.ListComp elt [⟨t1,i1,ifs1,0⟩,⟨t2,i2,ifs2,0⟩] scope pos) 1 it acc env).onRaise (λx=>do WD x env;TL theWindowsPlace)) _ _ s from wpAny_notedAt ?_);unfold compStart;show N1 _ _ (ask>>=_) _ _ s;refine NE (SD (wpAny_ite ?_));split
 ·first
   |exact NE (NJ (NJ (WE rfl h0)))
   |exact NJ (WE rfl h0)
 ·first
   |exact NE (VW (NE (Qi (NE (OM h (λit' s' h'=>NJ (WE rfl h')) λ_ _ x=>x)))))
   |(refine NE (VW ?_);show N1 _ _ (TL i2.pos>>=_) _ _ s;exact NE (Qi (NE (OM h (λit' s' h'=>NJ (WE rfl h')) λ_ _ x=>x))))
end
section
variable {Y:Cx}{c:Ct}{elt t1 t2 i1 i2:Expr}{ifs1 ifs2:List Expr}{scope:Qr}{pos:Pos}{f:FE}{g2:FG}{p2:FT}{gi2:FA}{hid:bN}{D0:Addr}{L W:Hp}{ρ1:aF}
theorem E8(hxe:Y.xe=λ_ _=>False)(he:DP Y c .s elt f)(hh:hid D0=true)(h00:c.H₀ D0=none)(nD:L D0=none):Da Y c hid D0 L W (v0 f) (zB Y.prog Y.w Y.A elt (.ref D0) Y.env) ρ1:=by
 intro ah s σ H xs ad zs Q I sr ac rp hz smL wv na hA hQ;unfold v0 at hA;cases e5:f ρ1 with
 |none=>rw[e5] at hA;cases hA
 |some y=>
  rw[e5] at hA;cases hA;unfold zB;refine bU (hxe▸he hid ρ1 _ s σ H (λv H'=>Same H H'/\Rep Y.K (vw H' hid) v y) I ⟨sr,y,e5,λv H' s' r=>⟨s',r⟩⟩) λv s10 hq_=>?_
  obtain⟨z,H10,I10,rz,sm10,rp10⟩:=hq_;have a10:H10 D0=some (.lst xs):=sm10 _ _ ac;refine bU (hxe▸eC (X:=Y) _ s10 σ H10 (.ref D0) [z] (.ref D0) [v] (λ_ H'=>H'=cm H10 D0 (.lst (xs++[z]))) I10 rfl (.cons rz .nil) ⟨D0,xs,z,rfl,rfl,a10,by simp at hz;omega,rfl⟩) λ_ s11 ⟨_,H11,I11,_,e11⟩=>?_
  subst e11;have vv:vw (cm H10 D0 (.lst (xs++[z]))) hid=vw H10 hid:=fX hh;have w10:Same (vw H hid) (vw H10 hid):=aY sm10;refine hQ s11 σ _ (xs++[z]) I11 ((sr.ext sm10).write hh h00 na a10) ba ?_ (λb o e=>?_) ?_ na
  ·rw[vv];exact(rp.mono w10).append (.cons rp10 .nil)
  ·rw[aR (bG e nD)];exact sm10 _ _ (smL _ _ e)
  ·rw[vv];exact w10
theorem Bd(hcalm:Y.calm=true)(hxe:Y.xe=λ_ _=>False){n1:Nat}(hT:jv n1 g2)(hN:Ms n1 ρ1)(hi:DIp Y c t2 i2 gi2)(hg:tx Y c t2 g2)(hp:u2 Y c ifs2 p2)(he:DP Y c .s elt f)(hh:hid D0=true)(h00:c.H₀ D0=none)(nD:L D0=none):
 Da Y c hid D0 L W (Fi gi2 g2 p2 f) (uJ Y.prog Y.w Y.A (.ListComp elt [⟨t1,i1,ifs1,0⟩,⟨t2,i2,ifs2,0⟩] scope pos) i2 (.ref D0) Y.env) ρ1:=by
 intro ah s σ H xs ad zs Q I sr ac rp hz smL wv na hA hQ;unfold Fi at hA;cases e5:gi2 ρ1 with
 |none=>rw[e5] at hA;cases hA
 |some ds=>
  rw[e5] at hA;have hA:qV g2 p2 (v0 f) ρ1 ds=some zs:=hA;unfold uJ;refine bU (hxe▸hi hid ρ1 ah s σ H (λJ H'=>Same H H'/\ItOk Y.K (vw H' hid) J ds) I ⟨sr,ds,e5,λJ H' s1 io=>⟨s1,io⟩⟩) λv s1 h1=>bU h1 λitv s2 h2=>?_
  obtain⟨it,fp,tn,J,H2,rfl,I2,T,st2,f2,sm,io⟩:=h2;have l1:=rp.length
  have loop:Qp (model Y.prog Y.w) Y.A (.compLoop (.ListComp elt [⟨t1,i1,ifs1,0⟩,⟨t2,i2,ifs2,0⟩] scope pos) 1 (.ref it) (.ref D0) Y.env) (λr s'=>match r with
   | .ok _=>Q s'
   | .error _=>False) s2:=by
   refine vp (L:=L) (W:=vw H2 hid) (ad0:=ad) (xs0:=xs) (A:=v0 f) (TA:=zB Y.prog Y.w Y.A elt (.ref D0) Y.env) hcalm hxe hT hg hp (λd ρ2 _=>E8 hxe he hh h00 nD) hN I2 (sr.ext sm) hh na (sm _ _ ac) (rp.mono (aY sm)) (smL.trans sm) (Same.refl _) T st2 f2 io.b (by omega) hA ER ?_
   intro s' σ' H' xs' I' sr' smL' ac' rp' v' na';exact hQ s' σ' H' xs' I' sr' ac' rp' smL' ((aY sm).trans v') na'
  exact Cp loop (T.self Y.A 0 _ _ _ st2 loop)
end
section
variable {X:Cx}{c:Ct}{elt t1 t2 i1 i2:Expr}{ifs1 ifs2:List Expr}{scope:Qr}{pos:Pos}{N':List Str}{m n1:Nat}{gi1 gi2:FA}{g1 g2:FG}{p1 p2:FT}{f:FE}
theorem wb(hcalm:X.calm=true)(hk:scope.kind=.function)(hs:xn scope X.env.scope=true)(hn:xE X.N N' scope=true)(hm:N'.length-X.N.length=m)(hT1:jv X.N.length g1)(hU1:CY n1 g1)(hn1:X.N.length<=n1)(hT2:jv n1 g2)
 (hset: ∀C s₀ H₀ ex,∀x,O6 i2 (aE X N' scope C s₀ H₀ ex).env x=pure x)
 (hg1: ∀C s₀ H₀ ex,tx (aE X N' scope C s₀ H₀ ex) c t1 g1) (hp1: ∀C s₀ H₀ ex,u2 (aE X N' scope C s₀ H₀ ex) c ifs1 p1) (hi2: ∀C s₀ H₀ ex,DIp (aE X N' scope C s₀ H₀ ex) c t2 i2 gi2)
 (hg2: ∀C s₀ H₀ ex,tx (aE X N' scope C s₀ H₀ ex) c t2 g2) (hp2: ∀C s₀ H₀ ex,u2 (aE X N' scope C s₀ H₀ ex) c ifs2 p2) (he: ∀C s₀ H₀ ex,DP (aE X N' scope C s₀ H₀ ex) c .s elt f)
 {E:NG->NH->Prop} {ah:List (Addr×Obj)} {σ:St} {H:Hp} {s:NH} {hid:bN} {ρ:aF} {J:It} {it:Addr} {fp:List Addr} {tn:Nat->Heap->Prop} {ds ys:List D} {RR:NG->Addr->T3->NH->Prop}
 (I:Inv X ah σ H s) (sr:SR X.K c hid ρ σ H) (T:Turn X.prog X.w X.K t1 J fp it tn) (st:tn 0 s.heap) (hF: ∀b∈fp,jB X ah H b) (io:Ld X.K H (vw H hid) J ds) (hz:ys.length<=Oi) (hc:qV g1 p1 (Fi gi2 g2 p2 f) (ρ++NR m .no) ds=some ys)
 (hR: ∀(D C:Addr) (s':NH) (H':Hp) (xs:List V),s.heap.objs.size<=D->s.heap.objs.size<=C->D≠C->H D=none->Same H H'->H' D=some (.lst xs)->Reps X.K (vw H' (bc hid D)) xs ys->(∃m,s'.heap.Ns C m)->H' C=none->s'.os=s.os->R7 s'.gens->HOk X.prog X.w H' s'.heap->Un (frs X.stack) fp H H' s.heap s'.heap->RR (.ref D) C (.ok .next) s'):
 N1 (model X.prog X.w) X.A (Vl []) (λacc s₃=>N1 (model X.prog X.w) X.A (Sc scope X.env.globals (tZ X.env.cells scope.names []) [] X.env.qual none .none (some X.env)) (λcenv s₄=>
  Qp (model X.prog X.w) X.A (.compStart (.ListComp elt [⟨t1,i1,ifs1,0⟩,⟨t2,i2,ifs2,0⟩] scope pos) 0 (.ref it) acc {cenv with scope:=Sb scope X.env}) (RR acc cenv.locals) s₄) E s₃) E s:=by
 refine Pw (ua λh₁ hns₁ kp1 oc₁=>?_);dsimp only at hns₁ kp1 oc₁⊢;generalize hH2:s.heap.push {cls:=.type "list",dict:=none,data:=.seq ([]:List NG).toArray}=H2 at hns₁ kp1 oc₁⊢;have hC:H2.objs.size=s.heap.objs.size+1:=by rw[<-hH2,P8]
 have hD:H s.heap.objs.size=none:=I.hok.fresh (NT _);have I2:Inv X ah σ (cm H s.heap.objs.size (.lst [])) {s with heap:=H2}:=by
  rw[<-hH2];exact I.laid (t':=s.toks) (λb o e=>NM _ e) (NT _) ⟨Pe _,[],0,.nil,NZ _ rfl⟩
 have fpLt: ∀b∈fp,b<s.heap.objs.size:=λb hb=>let⟨o,e,_⟩:=T.obj 0 s.heap st b hb;N0 e
 have hF2: ∀b∈fp,jB X ah (cm H s.heap.objs.size (.lst [])) b:=λb hb=>⟨by rw[aR (Oz (fpLt b hb))];exact(hF b hb).1,(hF b hb).2⟩
 have kp0: ∀b o,s.heap.get? b=some o->H2.get? b=some o:=λb o e=>by rw[<-hH2];exact NM _ e
 have IY:=qb (tk:=s.toks) (N':=N') (fp:=fp) I2 hF2 (λb hb=>let⟨o,e,_⟩:=T.obj 0 s.heap st b hb;⟨o,kp0 b o e⟩) hk hs hn hns₁ kp1 oc₁;rw[hm] at IY;dsimp only at IY;have sr0:SR X.K c (bc hid s.heap.objs.size) (ρ++NR m .no) (σ++NR m none) (cm H s.heap.objs.size (.lst [])):=(sr.hide (bf hD _) hD ba).more m;have hρ:ρ.length=X.N.length:=by rw[<-sr.len];exact I.len
 have nf:hid s.heap.objs.size=false:=sr.fresh hD;have st1:tn 0 h₁:=T.keep _ _ _ st λb hb o e=>kp1 b o (kp0 b o e)
 have na0: ∀i:Nat,Ow (ρ++NR m Sl.no)[i]? ->(σ++NR m none)[i]? ≠some (some (V.ref s.heap.objs.size)):=(sr.more m).notOw nf
 have wv:Same (vw H hid) (vw (cm H s.heap.objs.size (.lst [])) (bc hid s.heap.objs.size)):=by rw[uH hD];exact Same.refl _
 have nos:Ms X.N.length (ρ++NR m Sl.no):=λi s hi e=>by
  rw[Ox (by omega),OZ] at e;split at e
  ·cases e;rfl
  ·cases e
 have loop: ∀s4:NH,s4={s with heap:=h₁,toks:=s.toks}->
  Qp (model X.prog X.w) X.A (.compLoop (.ListComp elt [⟨t1,i1,ifs1,0⟩,⟨t2,i2,ifs2,0⟩] scope pos) 0 (.ref it) (.ref s.heap.objs.size) (Ue scope (oe X.env.cells scope H2.objs.size) H2.objs.size X.env)) (RR (.ref s.heap.objs.size) H2.objs.size) s4:=by
  rintro s4 rfl;have fpY: ∀b∈fp,jB (aE X N' scope H2.objs.size {s with heap:=H2} (cm H s.heap.objs.size (.lst [])) fp) [] (cm H s.heap.objs.size (.lst [])) b:=λb hb=>
   ⟨(hF2 b hb).1,(IY.ok.exf b hb).1,IY.ok.exfs b hb,.inl hb,(IY.ok.exf b hb).2,λq hq=>by have hq':q∈([]:List (Addr×Obj))++[]:=hq;simp at hq'⟩
  refine vp (Y:=aE X N' scope H2.objs.size {s with heap:=H2} (cm H s.heap.objs.size (.lst [])) fp) (L:=H) (hid:=bc hid s.heap.objs.size) (W:=vw H hid) (ad0:=[]) (xs0:=[]) (A:=Fi gi2 g2 p2 f) (TA:=uJ X.prog X.w X.A (.ListComp elt [⟨t1,i1,ifs1,0⟩,⟨t2,i2,ifs2,0⟩] scope pos) i2 (.ref s.heap.objs.size) (Ue scope (oe X.env.cells scope H2.objs.size) H2.objs.size X.env))
   hcalm rfl hT1 (hg1 _ _ _ _) (hp1 _ _ _ _) (λd ρ1 e=>Bd (Y:=aE X N' scope H2.objs.size {s with heap:=H2} (cm H s.heap.objs.size (.lst [])) fp) hcalm rfl hT2 (λi s hi e'=>?_) (hi2 _ _ _ _) (hg2 _ _ _ _) (hp2 _ _ _ _) (he _ _ _ _) fH (sr.fresh0 hD) hD) nos IY sr0 fH na0 ba .nil (bf hD _) wv T st1 fpY io (by simpa using hz) hc (A6 (hset H2.objs.size {s with heap:=H2} (cm H s.heap.objs.size (.lst [])) fp)) ?_
  ·rw[hU1 _ _ _ e i hi] at e';exact nos i s (by omega) e'
  ·intro s' σ' H' xs I' _ sm' hx' rp' _ _;have un1:Un (frs X.stack) fp H (cm H s.heap.objs.size (.lst [])) s.heap H2:=Un.laid (λb o e=>kp0 b o e) (NT _) hD;exact hR s.heap.objs.size H2.objs.size s' H' xs (NT _) (by rw[hC];exact RZ _) (by rw[hC];exact Oz (O9 _)) hD sm' hx' rp' (let⟨m,hm,_⟩:=I'.loc;⟨m,hm⟩) I'.free I'.os I'.bare I'.hok (un1.trans I'.base)
 exact Sd (loop _ rfl) (T.self X.A 0 _ _ _ st1 (loop _ rfl))
theorem iN(hcalm:X.calm=true)(n1:Nat)(hT1:jv X.N.length g1)(hU1:CY n1 g1)(hT2:jv n1 g2)(hi:LU X c t1 i1 gi1)
 (hg1: ∀C s₀ H₀ ex,tx (aE X N' scope C s₀ H₀ ex) c t1 g1) (hp1: ∀C s₀ H₀ ex,u2 (aE X N' scope C s₀ H₀ ex) c ifs1 p1) (hi2: ∀C s₀ H₀ ex,DIp (aE X N' scope C s₀ H₀ ex) c t2 i2 gi2)
 (hg2: ∀C s₀ H₀ ex,tx (aE X N' scope C s₀ H₀ ex) c t2 g2) (hp2: ∀C s₀ H₀ ex,u2 (aE X N' scope C s₀ H₀ ex) c ifs2 p2) (he: ∀C s₀ H₀ ex,DP (aE X N' scope C s₀ H₀ ex) c .s elt f)
 (hk:scope.kind=.function:=by rfl) (hs:xn scope X.env.scope=true:=by kernel_rfl) (hn:xE X.N N' scope=true:=by kernel_rfl) (hm:N'.length-X.N.length=m:=by rfl) (hn1:X.N.length<=n1:=by exact NP rfl) (hset: ∀x,O6 i1 X.env x=pure x:=by intro _;rfl)
 (hset2: ∀C s₀ H₀ ex,∀x,O6 i2 (aE X N' scope C s₀ H₀ ex).env x=pure x:=by intros;rfl):
 DP X c .n (.ListComp elt [⟨t1,i1,ifs1,0⟩,⟨t2,i2,ifs2,0⟩] scope pos) (kl m gi1 g1 p1 gi2 g2 p2 f):=by
 intro hid ρ ah s σ H Q I hq;obtain⟨sr,d,hd,q⟩:=hq;obtain⟨ds,ys,e1,hc,hz,rfl⟩:=BM hd;rw[X8];refine QX (use:=none) rfl hset (fc λx hx=>I.ok.has x (iD hs x hx)) hk (kQ hs) ?_
 refine bU (hi hid ρ ah s σ H (λJ H'=>Same H H'/\Ld X.K H' (vw H' hid) J ds) I ⟨sr,ds,e1,λJ H' s1 io=>⟨s1,io⟩⟩) λv s1 h1=>bU h1 λitv s2 h2=>?_
 obtain⟨it,fp,tn,J,H2,rfl,I2,T,st2,f2,sm,io⟩:=h2;refine wb (RR:=λacc C=>Xs (model X.prog X.w) X.A X.xe none (EP X ah σ Q) acc C) hcalm hk hs hn hm hT1 hU1 hn1 hT2 hset2 hg1 hp1 hi2 hg2 hp2 he I2 (sr.ext sm) T st2 f2 io hz hc ?_
 intro D C s' H' xs hDge hCge hDC hD sm' hx rp ⟨mm,hns⟩ hC' hos hbare hok hun;refine⟨mm,hns,λh' hsb=>⟨.ref D,H',?_,rfl,q _ H' (sm.trans sm') ⟨D,xs,ys,rfl,rfl,sm.free hD,hx,rp⟩⟩⟩;have neC: ∀b o,s2.heap.get? b=some o->b≠C:=λb o e z=>by subst z;exact absurd (N0 e) (Ry.mpr hCge)
 have hun':Un (frs X.stack) fp H2 H' s2.heap h':=⟨λb o e n h1 h2=>(hsb.2 b (neC b o e)).trans (hun.keep b o e n h1 h2),λb o e n h1 h2=>let⟨sl,z⟩:=hun.slot b o e n h1 h2;⟨sl,(hsb.2 b (neC b o e)).trans z⟩,hun.free,λb o e h2=>let⟨o',z⟩:=hun.there b o e h2;⟨o',(hsb.2 b (neC b o e)).trans z⟩,hun.tups,hun.frzs,hun.tbls⟩
 have hok':HOk X.prog X.w H' h':=λb o e=>by
  have nb: ∀b' o',H' b'=some o'->b'≠C:=λb' o' e' z=>by subst z;rw[hC'] at e';cases e'
  refine(hok b o e).stay (λc' u hc' z=>(hsb.2 c' ?_).trans z) (λ_ z=>z) λ_ _ z=>z
  rcases hc' with z'|z'
  ·rw[z'];exact nb b o e
  ·exact nb c' _ z'
 exact I2.call' (s':={s' with heap:=h'}) (ch:=fp) hos hun' hok' hbare λb hb=>⟨(f2 b hb).2.2.2.1,(f2 b hb).2.1,(f2 b hb).2.2.2.2.1,(f2 b hb).2.2.2.2.2⟩
end
def lQ(ds:List D)(lo hi:Option Int):List D:=(ds.drop (HT.sIx ds.length 0 lo)).take (HT.sIx ds.length ds.length hi-HT.sIx ds.length 0 lo)
theorem wy {K:NU}{F:Hp}{xs:List V}{ds:List D}(r:Reps K F xs ds)(lo hi:Option Int):Reps K F (Bo xs lo hi) (lQ ds lo hi):=by
 unfold Bo lQ;rw[r.length];exact(r.drop _).take _
abbrev FO:=aF->Option (Option Int)
def Nt(K:NU)(c:Ct)(hid:bN)(f:FO)(ρ:aF):TO:=λσ H Q=>SR K c hid ρ σ H/\ ∃o,f ρ=some o/\ ∀H',Same H H'->Q o H'
def DO(X:Cx)(c:Ct)(e:Option Expr)(f:FO):Prop:= ∀hid ρ,PO X e (Nt X.K c hid f ρ)
theorem PO.imp {X:Cx}{e:Option Expr}{t t':TO}(h:PO X e t)(i: ∀σ H Q,t' σ H Q->t σ H Q):PO X e t':=λah s σ H Q I q=>h ah s σ H Q I (i σ H Q q)
section
variable {X:Cx}{c:Ct}{e a b:Expr}{f g:FE}{k:Kd}{pos p2:Pos}{lo hi:Option Expr}{l u:FO}
def nH:FO:=λ_=>some none
def jQ(f:FE):FO:=λρ=>(f ρ).bind λd=>match d with
 | .int i=>some (some i)
 |_=>none
theorem eN:DO X c none nH:=λhid ρ=>PO.imp G8 λσ H Q ⟨sr,o,e,q⟩=>by cases e;exact q H (Same.refl _)
theorem cY(h:DP X c k e f):DO X c (some e) (jQ f):=λhid ρ=>PO.imp (FL (h hid ρ)) λσ H Q hq_=>by
 obtain⟨sr,o,e,q⟩:=hq_;unfold jQ at e;cases e1:f ρ with
 |none=>rw[e1] at e;cases e
 |some d=>
  rw[e1] at e;cases d with
  |int i=>
   cases e;refine⟨sr,_,e1,λv H' s r=>⟨i,?_,q H' s⟩⟩;exact(RK.b k r λa n=>sr.fresh n).int
  |_=>cases e
def ft(f:FE)(l u:FO):FE:=λρ=>(f ρ).bind λd=>match d with
 | .lst ds=>(l ρ).bind λlo=>(u ρ).map λhi=>.lst (lQ ds lo hi)
 |_=>none
theorem h8(he:DP X c k e f)(hl:DO X c lo l)(hu:DO X c hi u):DP X c .n (.Subscript e (.Slice lo hi none p2) pos) (ft f l u):=λhid ρ=>
 PE.imp (u7 zN (he hid ρ) (hl hid ρ) (hu hid ρ)) λσ H Q hq_=>by
  obtain⟨sr,d,hd,q⟩:=hq_;unfold ft at hd;cases e1:f ρ with
  |none=>rw[e1] at hd;cases hd
  |some z=>
   rw[e1] at hd;cases z with
   |lst ds=>
    have hd:((l ρ).bind λlo=>(u ρ).map λhi=>D.lst (lQ ds lo hi))=some d:=hd;cases e2:l ρ with
    |none=>rw[e2] at hd;cases hd
    |some o1=>
     rw[e2] at hd;cases e3:u ρ with
     |none=>rw[e3] at hd;cases hd
     |some o2=>
      rw[e3] at hd;cases hd;refine⟨sr,_,e1,λv H1 s1 r1=>⟨sr.ext s1,o1,e2,λH2 s2=>⟨(sr.ext s1).ext s2,o2,e3,λH3 s3=>?_⟩⟩⟩;obtain⟨a,xs,rfl,h1,h2⟩:=((RK.b k r1 λa n=>sr.fresh n).ext (s2.trans s3)).lst;exact⟨a,xs,rfl,h1,λp hp=>q _ _ ((s1.trans (s2.trans s3)).trans (bf hp _)) (gw hp (s1.trans (s2.trans s3)) (wy h2 o1 o2))⟩
   |_=>cases hd
end
end L2
namespace PySem
open Sem (wp)
open AutoSeq1 (wpAny_loadPart')
section
variable {prog:OI}{w:OT}{A:OL}{E:NG->NH->Prop}{s:NH}
theorem qs {it t:Addr}{i:Nat}{us}{x:NG}{Q:NG->NH->Prop}(hit:s.heap.IsTupleIter it t i)(ht:s.heap.IsTuple t us)(hx:us[i]? =some x)
 (hQ: ∀g,g.IsTupleIter it t (i+1)->Pd it s.heap g->Q x {s with heap:=g}):N1 (model prog w) A (PJ (.ref it)) Q E s:=by
 obtain⟨o,ho,hc,hd⟩:=id hit;obtain⟨ot,hot,_,nt,hdt⟩:=ht;unfold PJ;refine NE (P0 (name:=RC "__next__") hit.typeIs QG (Pa QG hit.typeIs Td (show N1 _ _ (XF (.ref it) 0>>=_) _ _ s from NE (QT ho hd (x:=.ref t) rfl ?_)) (SX _)));show N1 _ _ (if(PM t==OP)=true then _ else _) _ _ s;rw[if_neg (show¬((PM t==OP)=true) from Ra)];refine(show N1 _ _ (XF (.ref it) 1>>=_) _ _ s from NE (QT ho hd (x:=.int i 0) rfl (show N1 _ _ (seqItems? (.ref t)>>=_) _ _ s from NE (Tk hot hdt ?_))));simp only[PL,hx];exact NE (Si ho hd (by simp) (NJ ⟨x,rfl,NJ (hQ _ ⟨_,Pg _ ho (Rp (QH hd _)),(TV ..).trans hc,by rw[QH hd];simp[R9]⟩ (PK ..))⟩))
theorem rG {it t:Addr}{i:Nat}{us}{Q:NG->NH->Prop}(hh:A.handled=none)(hit:s.heap.IsTupleIter it t i)(ht:s.heap.IsTuple t us)(hx:us[i]? =none)
 (hE: ∀g e,TW it s.heap g->(∃o,g.get? e=some o/\o.cls=.type "StopIteration")->E (.ref e) {s with heap:=g}):N1 (model prog w) A (PJ (.ref it)) Q E s:=by
 obtain⟨o,ho,hc,hd⟩:=id hit;obtain⟨ot,hot,_,nt,hdt⟩:=ht;unfold PJ;refine NE (P0 (name:=RC "__next__") hit.typeIs QG (Pa QG hit.typeIs Td (show N1 _ _ (XF (.ref it) 0>>=_) _ _ s from NE (QT ho hd (x:=.ref t) rfl ?_)) (SX _)));show N1 _ _ (if(PM t==OP)=true then _ else _) _ _ s;rw[if_neg (show¬((PM t==OP)=true) from Ra)];refine(show N1 _ _ (XF (.ref it) 1>>=_) _ _ s from NE (QT ho hd (x:=.int i 0) rfl (show N1 _ _ (seqItems? (.ref t)>>=_) _ _ s from NE (Tk hot hdt ?_))));simp only[PL,hx];refine NE (VW (NE (Si ho hd (by simp) (show N1 _ _ (newExc (.type "StopIteration") []>>=_) _ _ _ from NE ?_))));simp only[newExc,newTuple];refine NE (Pw ?_ (by size_fits));refine NE (m:=Tr _ _) (Vb (a:=OP) (by first|rfl|(simp only[Tr];rfl)) (Pw ?_ (by size_fits)));simp only[raiseNew];refine NE (Yg ?_)
 first|rw[show A.in1.handled=none from hh]|rw[hh]
 exact NE (NJ (wpAny_throw (hE _ _ (((PK ..).extBut.push _).push _) ⟨_,NZ _ rfl,rfl⟩)))
theorem ux {e it:Addr}{i:Nat}{x old:NG}{N:Heap->Prop}{Q:Option NG->NH->Prop}(he:UC s.heap e it i old)(hne:e≠it)(hNk: ∀g g',N g->(∀o,g.get? it=some o->g'.get? it=some o)->N g')
 (nx: ∀(A':OL) (Q':NG->NH->Prop) (E':NG->NH->Prop),(∀g,N g->Pd it s.heap g->Q' x {s with heap:=g})->N1 (model prog w) A' (PJ (.ref it)) Q' E' s)
 (hQ: ∀g,YD g e it ((i:Int)+1) x s.heap.objs.size->N g->g.get? s.heap.objs.size=some {cls:=.type "tuple",data:=.seq #[.int i s.toks,x]}->g.objs.size=s.heap.objs.size+1->
   (∀b o,b≠e->b≠it->s.heap.get? b=some o->g.get? b=some o)->Q (some (.ref s.heap.objs.size)) {s with heap:=g,toks:=s.toks+1}):N1 (model prog w) A (R8 (.ref e)) Q E s:=by
 have hT:s.TypeIs (.ref e) "enumerate":=⟨_,he,rfl⟩
 unfold R8;refine NE (T8 (P0 (name:=RC "__next__") hT Rq (Pa Rq hT UD ?_ (Ui _))));obtain⟨hp,gn,dr,tk,os⟩:=s;refine(show N1 _ _ (XF (.ref e) 2>>=_) _ _ _ from NE (QT he rfl (x:=.ref it) rfl (NE (nx _ _ _ λg₁ n₁ b₁=>?_))));replace b₁:Pd it hp g₁:=b₁;have e₁:UC g₁ e it i old:=(b₁.2 e hne).trans he;refine(show N1 _ _ (XF (.ref e) 3>>=_) _ _ ⟨g₁,gn,dr,tk,os⟩ from NE (QT e₁ rfl (x:=R9 i) rfl ?_));refine(show N1 _ _ (XF (.ref e) 4>>=_) _ _ ⟨g₁,gn,dr,tk,os⟩ from NE (QT e₁ rfl (x:=.none) rfl ?_));refine(show N1 _ _ (mkInt i>>=_) _ _ ⟨g₁,gn,dr,tk,os⟩ from NE (wpAny_mkInt ?_));refine(show N1 _ _ (setField (.ref e) 3 (R9 ((i:Int)+1))>>=_) _ _ ⟨g₁,gn,dr,tk+1,os⟩ from NE (Rf e₁ (by simp) λg₂ e₂ b₂=>?_));replace b₂:Pd e g₁ g₂:=b₂;replace e₂:UC g₂ e it ((i:Int)+1) old:=e₂;refine(show N1 _ _ (setField (.ref e) 4 .none>>=_) _ _ ⟨g₂,gn,dr,tk+1,os⟩ from NE (Rf e₂ (by simp) λg₃ e₃ b₃=>?_));replace b₃:Pd e g₂ g₃:=b₃;replace e₃:UC g₃ e it ((i:Int)+1) old:=e₃;refine(show N1 _ _ (newTuple [.int i tk,x]>>=_) _ _ ⟨g₃,gn,dr,tk+1,os⟩ from NE (Xy ?_));have z₃:g₃.objs.size=hp.objs.size:=by rw[b₃.1,b₂.1,b₁.1]
 have le:e<hp.objs.size:=N0 he;have e₄:UC (g₃.push {cls:=.type "tuple",data:=.seq #[.int i tk,x]}) e it ((i:Int)+1) old:=NM _ e₃;have n₄:N (g₃.push {cls:=.type "tuple",data:=.seq #[.int i tk,x]}):=hNk _ _ n₁ λo ho=>NM _ (b₃.extBut _ _ (OX hne) (b₂.extBut _ _ (OX hne) ho))
 have t₄:(g₃.push {cls:=.type "tuple",data:=.seq #[.int i tk,x]}).get? hp.objs.size=some {cls:=.type "tuple",data:=.seq #[.int i tk,x]}:=by rw[<-z₃];exact NZ _ rfl
 have s₄:(g₃.push {cls:=.type "tuple",data:=.seq #[.int i tk,x]}).objs.size=hp.objs.size+1:=by rw[P8,z₃]
 have k₄: ∀b o,b≠e->b≠it->hp.get? b=some o->(g₃.push {cls:=.type "tuple",data:=.seq #[.int i tk,x]}).get? b=some o:=λb o h1 h2 h3=>NM _ (b₃.extBut b o h1 (b₂.extBut b o h1 (b₁.extBut b o h2 h3)))
 generalize g₃.push {cls:=.type "tuple",data:=.seq #[.int i tk,x]}=g₄ at e₄ n₄ t₄ s₄ k₄;rw[z₃];refine(show N1 _ _ (RI (.ref e)>>=_) _ _ ⟨g₄,gn,dr,tk+1,os⟩ from NE ?_);unfold RI;refine NE (QT e₄ rfl (x:=.none) rfl (NJ ?_));simp only[if_true];refine NE (VW (NE (QT e₄ rfl (x:=old) rfl (NE (Rf e₄ (by simp) λg₅ e₅ b₅=>?_)))));replace b₅:Pd e g₄ g₅:=b₅;replace e₅:UC g₅ e it ((i:Int)+1) x:=e₅;refine(show N1 _ _ (RD (.ref e) (.ref hp.objs.size)>>=_) _ _ ⟨g₅,gn,dr,tk+1,os⟩ from NE ?_);unfold RD;refine NE (Rf e₅ (by simp) λg₆ e₆ b₆=>?_);replace b₆:Pd e g₅ g₆:=b₆;replace e₆:YD g₆ e it ((i:Int)+1) x hp.objs.size:=e₆;refine Rf e₆ (by simp) λg₇ e₇ b₇=>?_
 replace b₇:Pd e g₆ g₇:=b₇;replace e₇:YD g₇ e it ((i:Int)+1) x hp.objs.size:=e₇;refine NE (wpAny_letGo (NJ ⟨_,rfl,NJ (hQ g₇ e₇ (hNk _ _ n₄ λo ho=>?_) ?_ ?_ λb o h1 h2 h3=>?_)⟩))
 ·exact b₇.extBut _ _ (OX hne) (b₆.extBut _ _ (OX hne) (b₅.extBut _ _ (OX hne) ho))
 ·exact b₇.extBut _ _ (QQ le) (b₆.extBut _ _ (QQ le) (b₅.extBut _ _ (QQ le) t₄))
 ·rw[b₇.1,b₆.1,b₅.1,s₄]
 ·exact b₇.extBut b o h1 (b₆.extBut b o h1 (b₅.extBut b o h1 (k₄ b o h1 h2 h3)))
theorem vo {e it:Addr}{i:Nat}{old:NG}{Q:Option NG->NH->Prop}(he:UC s.heap e it i old)
 (nx: ∀(A':OL),A'.handled=A.handled-> ∀(Q':NG->NH->Prop) (E':NG->NH->Prop),(∀g x,TW it s.heap g->(∃o,g.get? x=some o/\o.cls=.type "StopIteration")->E' (.ref x) {s with heap:=g})->N1 (model prog w) A' (PJ (.ref it)) Q' E' s)
 (hQ: ∀g,TW it s.heap g->Q none {s with heap:=g}):N1 (model prog w) A (R8 (.ref e)) Q E s:=by
 have hT:s.TypeIs (.ref e) "enumerate":=⟨_,he,rfl⟩
 unfold R8;refine NE (T8 (P0 (name:=RC "__next__") hT Rq (Pa Rq hT UD (show N1 _ _ (XF (.ref e) 2>>=_) _ _ _ from NE (QT he rfl (x:=.ref it) rfl (NE (nx A.in1 rfl _ _ λg x k hx=>?_)))) (Ui _))));obtain⟨o,ho,hc⟩:=hx;exact NE (Uj (T:="StopIteration") (b:=true) ⟨o,ho,hc⟩ XG (NJ (hQ _ k)))
end
set_option maxHeartbeats 1000000 in
theorem uy(l:Addr)(us:Array NG)(n:Nat)(dct:Option Addr)(sl:Array (Option NG)):
 Meets (Rc.«enumerate.__new__» ⟨[.type "enumerate",.ref l],[]⟩) (λ_ R s=>s.heap.get? l=some {cls:=.type "tuple",dict:=dct,data:=.seq us n,slots:=sl}/\
  R (.ok (.ret (.ref (s.heap.push {cls:=.type "tuple_iterator",data:=.fields #[.ref l,.int 0 0]}).objs.size)))
   {s with heap:=(s.heap.push {cls:=.type "tuple_iterator",data:=.fields #[.ref l,.int 0 0]}).push {cls:=.type "enumerate",data:=.fields #[.none,.bool false,.ref s.heap.objs.size,R9 0,.none,.none]}}):=
 .of_wp λprog w A R s h=>by
  obtain⟨hp,g,d,tk,os⟩:=s;obtain⟨hl,h⟩:=h;have hsub:=sub_enumerate;have hL:Heap.IsTuple (Shared.heap ⟨hp,g,d,tk,os⟩) l us:=⟨_,hl,rfl,n,rfl⟩
  wp_walk using QN hl
  refine wpAny_stack_any λst=>NJ ?_
  split
  ·rename_i c _ _ _ _ _
   cases (c==jbL "enumerate")
   ·wp_walk using QN hl,RT hL
    exact⟨_,rfl,h⟩
   ·wp_walk using QN hl,RT hL
    exact⟨_,rfl,h⟩
  ·wp_walk using QN hl,RT hL
   exact⟨_,rfl,h⟩
section
variable {prog:OI}{w:OT}{A:OL}{E:NG->NH->Prop}{s:NH}
theorem rK {l:Addr}{us:Array NG}{Q:NG->NH->Prop}(hL:s.heap.IsTuple l us)
 (h: ∀g,UC g (s.heap.objs.size+1) s.heap.objs.size 0 .none->g.IsTupleIter s.heap.objs.size l 0->g.objs.size=s.heap.objs.size+2->(∀b o,s.heap.get? b=some o->g.get? b=some o)->Q (.ref (s.heap.objs.size+1)) {s with heap:=g}):
 N1 (model prog w) A (call (.type "enumerate") [.ref l]) Q E s:=by
 obtain⟨⟨cls,dct,dat,sl⟩,ho,hc,n,hd⟩:=hL;have hc:cls=.type "tuple":=hc;have hd:dat=.seq us n:=hd;subst hc hd;refine callType_new F.called_enumerate (by decide) (F.typeCall_enumerate_1 _) (F.newCall_enumerate_1 _) (λobj=>F.args_object_init_2 obj _) F.entry_enumerate_new (uy l us n dct sl) ⟨ho,?_⟩;have hz:(s.heap.push {cls:=.type "tuple_iterator",data:=.fields #[.ref l,.int 0 0]}).objs.size=s.heap.objs.size+1:=P8 ..;show _/\_;rw[hz];have he:UC ((s.heap.push {cls:=.type "tuple_iterator",data:=.fields #[.ref l,.int 0 0]}).push {cls:=.type "enumerate",data:=.fields #[.none,.bool false,.ref s.heap.objs.size,R9 0,.none,.none]}) (s.heap.objs.size+1) s.heap.objs.size 0 .none:=by
  have:=NZ (s.heap.push {cls:=.type "tuple_iterator",data:=.fields #[.ref l,.int 0 0]}) (o:={cls:=.type "enumerate",data:=.fields #[.none,.bool false,.ref s.heap.objs.size,R9 0,.none,.none]}) rfl;rw[hz] at this;exact this
 exact⟨⟨_,he,rfl⟩,h _ he ⟨_,NM _ (NZ _ rfl),rfl,rfl⟩ (by rw[P8,hz]) λb o x=>NM _ (NM _ x)⟩
end
end PySem
namespace L2
open PySem PySem.Spec PyProof.Rows
def Nd(K:NU)(a:Addr):It:=
 ⟨λi H=> ∃xs x,SqT K H a xs/\xs[i]? =some x,λi H x H'=> ∃T,x=.ref T/\H T=none/\ ∀xs,SqT K H a xs-> ∃y,xs[i]? =some y/\H'=cm H T (.tup [.int i,y]),λi H=> ∃xs,SqT K H a xs/\xs.length<=i⟩
theorem yN {P:OI}{w:OT}{K:NU}{es:List Expr}{x1}{pos:Pos}(a it e:Addr)(hei:e≠it):Turn P w K (.Tuple es x1 pos) (Nd K a) [e,it] e (λi h=>(∃old,UC h e it i old)/\h.IsTupleIter it a i) where
 mem:=by simp
 obj:=λi h st b hb=>by
  obtain⟨⟨old,he⟩,o,ho,hc,hd⟩:=st;rcases Oc.mp hb with rfl|hb
  ·exact⟨_,he,λv z=>by cases z⟩
  ·have:b=it:=by simpa using hb
   subst this;exact⟨o,ho,λv z=>by rw[hd] at z;cases z⟩
 keep:=λi h h' st k=>by
  obtain⟨⟨old,he⟩,hit⟩:=st;exact⟨⟨old,k e (by simp) _ he⟩,hit.at λo x=>k it (by simp) o x⟩
 item:=by
  intro X hP hw hK hc i ah s σ H E I hf st hg;subst hP hw hK;obtain⟨xs,x,hq,hx⟩:=hg;obtain⟨its,rv,p,hz⟩:=I.tuple hq;obtain⟨u,hu,ru⟩:=rv.get hx;obtain⟨⟨old,he⟩,hit⟩:=st;obtain⟨e0,e1,e2,e3,e4,e5⟩:=hf e (by simp);obtain⟨f0,f1,f2,f3,f4,f5⟩:=hf it (by simp);have ht:s.heap.IsTuple a its.toArray:=p;refine ux (x:=u) (N:=λg=>g.IsTupleIter it a (i+1)) he hei (λg g' n k=>n.at k) (λA' Q' E' hq'=>qs hit ht (by simpa using hu) λg n b=>hq' g n b) λg hout hit' hT hsz hk=>⟨_,rfl,?_⟩
  refine wpAny_letOwnedTupleGo_enum hout λg' he' hs'=>?_
  have elt:e<s.heap.objs.size:=N0 he;have k2: ∀b o,b≠e->b≠it->s.heap.get? b=some o->g'.get? b=some o:=λb o h1 h2 h3=>(hs'.2 b h1).trans (hk b o h1 h2 h3)
  have hT':g'.get? s.heap.objs.size=some {cls:=.type "tuple",data:=.seq #[.int i s.toks,u]}:=(hs'.2 _ (QQ elt)).trans hT;have hn:H s.heap.objs.size=none:=I.hok.fresh (NT _);have I1:Inv X ah σ (cm H s.heap.objs.size (.tup [.int i,x])) {s with heap:=g',toks:=s.toks+1}:=by
   obtain⟨oi,hoi,hci,hdi⟩:=id (show g'.IsTupleIter it a (i+1) from hit'.at λo y=>(hs'.2 it (OX hei)).trans y);obtain⟨os0,hos0,_⟩:=id hit;have ilt:it<s.heap.objs.size:=N0 hos0;have I0:Inv X ah σ (cm H s.heap.objs.size (.tup [.int i,x])) {s with heap:=s.heap.push {cls:=.type "tuple",data:=.seq #[.int i s.toks,u]},toks:=s.toks+1}:=
    I.laid (t':=s.toks+1) (λb o q=>NM _ q) (NT _) (show ObjOk X.prog X.w _ _ _ (.tup [.int i,x]) from
     ⟨Q9 (kE (by simp)),[.int i s.toks,u],.cons ⟨_,rfl⟩ (.cons ru .nil),⟨_,NZ _ rfl,rfl,_,rfl⟩,_,NZ _ rfl,rfl⟩)
   have u1:((s.heap.push {cls:=.type "tuple",data:=.seq #[.int i s.toks,u]}).update it λ_=>oi).get? it=some oi:=Pg (λ_=>oi) (NM _ hos0) (Rp hdi);have I1:Inv X ah σ (cm H s.heap.objs.size (.tup [.int i,x])) {s with heap:=(s.heap.push {cls:=.type "tuple",data:=.seq #[.int i s.toks,u]}).update it λ_=>oi,toks:=s.toks+1}:=
    I0.turned (t':=s.toks+1) (λb o hb q=>(Qv _ _ (OX hb)).trans q) (by rw[aR (Oz ilt)];exact f0) f1 f3 f4 f5
   refine I1.turned (t':=s.toks+1) (λb o hb q=>?_) (by rw[aR (Oz elt)];exact e0) e1 e3 e4 e5
   by_cases hbi:b=it
   ·subst hbi;have q':((s.heap.push {cls:=.type "tuple",data:=.seq #[.int i s.toks,u]}).update b λ_=>oi).get? b=some o:=q;rw[u1] at q';cases q';exact hoi
   ·have q':((s.heap.push {cls:=.type "tuple",data:=.seq #[.int i s.toks,u]}).update it λ_=>oi).get? b=some o:=q;rw[Qv _ _ (OX hbi)] at q'
    by_cases hbT:b=s.heap.objs.size
    ·subst hbT;rw[NZ _ rfl] at q';cases q';exact hT'
    ·rw[Heap.get?_push_ne _ _ _ hbT] at q';exact k2 b o hb hbi q'
  refine⟨.ref s.heap.objs.size,cm H s.heap.objs.size (.tup [.int i,x]),I1,rfl,⟨_,rfl,hn,λys hy=>⟨x,by rw[I.tuple_inj hy hq];exact hx,rfl⟩⟩,⟨⟨u,by simpa using he'⟩,hit'.at λo y=>(hs'.2 it (OX hei)).trans y⟩,λb hb=>?_⟩;rcases Oc.mp hb with rfl|hb
  ·rw[aR (Oz elt)];exact e0
  ·have:b=it:=by simpa using hb
   subst this;obtain⟨o,ho,_⟩:=hit;rw[aR (Oz (N0 ho))];exact f0
 done:=by
  intro X hP hw hK hc i ah s σ H E I hf st hg;subst hP hw hK;obtain⟨xs,hq,hx⟩:=hg;obtain⟨its,rv,p,hz⟩:=I.tuple hq;obtain⟨⟨old,he⟩,hit⟩:=st;obtain⟨f0,f1,f2,f3,f4,f5⟩:=hf it (by simp);have hl:=rv.length;have hh:=I.ok.hd hc;refine vo he (λA' hA' Q' E' hq'=>rG (hA'.trans hh) hit (show s.heap.IsTuple a its.toArray from p) (by simp;omega) hq') λg k=>⟨rfl,I.turned (t':=s.toks) (λb o hb z=>k b o hb z) f0 f1 f3 f4 f5⟩
 self:=λ_ _ _ _ _ st h=>let⟨⟨_,he⟩,_⟩:=st;Wh he h
section
variable {X:Cx}{c:Ct}{k:Kd}{es:List Expr}{x1:Nat}{tp pos p:Pos}
def yC(ds:List D):List D:=(ND ds.length).map λ(i:Nat)=>D.tup [.int i,ds.getD i .non]
def Ig(f:FE):FA:=λρ=>(f ρ).bind λd=>match d with
 | .tup ds=>some (yC ds)
 |_=>none
theorem AS {K:NU}{W:Hp}{a:Addr}{xs:List V}{ds:List D}(h1:SqT K W a xs)(h2:Reps K W xs ds):ItOk K W (Nd K a) (yC ds):=by
 have l:=h2.length;have el:(yC ds).length=ds.length:=by simp[yC]
 refine⟨λi d H e s=>?_,λH s=>⟨_,Same.seqT s h1,by rw[el,<-l];exact NT _⟩⟩;have hi:i<ds.length:=by rw[<-el];exact(NY.mp e).1
 have ex:xs[i]? =some xs[i]:=NL (by omega);refine⟨⟨_,xs[i],Same.seqT s h1,ex⟩,λy H' ⟨T,e2,hT,e3⟩=>?_⟩;subst e2;obtain⟨z,e4,e5⟩:=e3 _ (Same.seqT s h1);subst e5;refine⟨bf hT _,λhid tr sw=>?_⟩;have hf:hid T=false:=by
  cases eh:hid T with
  |false=>rfl
  |true=>obtain⟨o,ho⟩:=tr T eh;rw[hT] at ho;cases ho
 obtain⟨d',e6,r6⟩:=h2.get' e4;have ed:d=.tup [.int i,d']:=by
  unfold yC at e;rw[OH,RE hi] at e;have:ds.getD i .non=d':=by simp[OJ,e6]
  rw[Rj,this] at e;exact(OS e).symm
 rw[ed];exact qU hT hf (.cons .int (.cons (r6.mono sw) .nil))
theorem Ev {iter:Expr}{f:FE}(h:DP X c .s iter f)(hm:X.mg "enumerate"=none)(hg:Gl X "enumerate":=by rfl)(hs:N8 [iter] X.env=[(false,eval iter X.env)]:=by rfl):DIp X c (.Tuple es x1 tp) (.Call (.Name "enumerate" p) [iter] [] pos) (Ig f):=by
 intro hid ρ ah s σ H R I hq;obtain⟨sr,ds,hd,q⟩:=hq;unfold Ig at hd;cases e1:f ρ with
 |none=>rw[e1] at hd;cases hd
 |some z=>
  rw[e1] at hd;cases z with
  |tup us=>
   cases hd;refine Call_ (qH (u:=.type "enumerate") I hg hm (by kernel_rfl) (Ru (bU (eQ (h hid ρ) iU hs pos ah s σ H (λvs H'=> ∃v,vs=[v]/\Same H H'/\Rep X.K (vw H' hid) v (.tup us)) I ⟨sr,_,e1,λv H' s' r=>⟨v,rfl,s',r⟩⟩) λvs s1 ⟨ws,H1,I1,r1,w,e,s',r⟩=>?_) hs rfl));subst e;cases r1 with
   |cons ra rb=>
    cases rb;cases r with
    |tup t1 t2=>
     cases ra;obtain⟨its,rv,pt,hz⟩:=I1.tuple (Same.seqT (di _ _) t1);refine rK (show s1.heap.IsTuple _ its.toArray from pt) λg he hit hsz hk=>?_
     refine Wh he ⟨_,[s1.heap.objs.size+1,s1.heap.objs.size],_,_,H1,rfl,I1.kept (t':=s1.toks) λb o e=>hk b o e,yN _ _ _ (QQ (O9 _)),⟨⟨_,he⟩,hit⟩,λb hb=>?_,q _ H1 s' (AS t1 t2)⟩;rcases Oc.mp hb with rfl|hb
     ·exact I1.fpOk (RZ _) (I1.hok.fresh (RZ _))
     ·have:b=s1.heap.objs.size:=by simpa using hb
      subst this;exact I1.fpOk (NT _) (I1.hok.fresh (NT _))
  |_=>cases hd
end
open PySem PySem.W PySem.Calls PyProof.Rows
def JC {α:Type}(d:α)(n:Nat):Option α:=if n<=Oi then some d else none
def M7 {α:Type}(d:α)(n:Nat):Option α:=if n<Oi then some d else none
theorem eH {α:Type}{d:α}{n:Nat}(h:n<=1000):JC d n=some d:=if_pos (Q9 (kE h))
theorem se {α:Type}{d:α}{n:Nat}(h:n<=1000):M7 d n=some d:=if_pos (kE h)
theorem Hc(fs:FA)(ρ:aF):cz fs ρ=(fs ρ).bind λds=>JC (.tup ds) ds.length:=rfl
theorem nu(fs:FA)(ρ:aF):cq fs ρ=(fs ρ).bind λds=>JC (.lst ds) ds.length:=rfl
theorem CM(m:Nat)(gi:FA)(g:FG)(p:FT)(f:FE)(ρ:aF):bM m gi g p f ρ=(gi ρ).bind λds=>(JC () ds.length).bind λ_=>(dm g p f (ρ++NR m .no) ds).map D.lst:=by
 unfold bM JC;congr 1;funext ds;split<;>rfl
theorem Ay(bs:List D)(d:D):ic bs [d]=M7 (.non,bs++[d]) bs.length:=rfl
theorem Gn(bs:List D)(i:Int):rL bs [.int i]=(JC () bs.length).bind λ_=>(wS bs.length i).bind λj=>(bs[j]?).map λd=>(d,bs.eraseIdx j):=by
 unfold rL JC;dsimp only;split
 ·rename_i j e
  split at e
  ·rw[if_pos ‹_›,e];rfl
  ·cases e
 ·rename_i e
  split at e
  ·rw[if_pos ‹_›,e];rfl
  ·rw[if_neg ‹_›];rfl
def Lg(ds:List D):Option (List D):=match ds with
 | [.int j]=>if j.natAbs<4000000000 then some (BC 0 j.toNat) else none
 |_=>none
theorem vC(f:FA)(ρ:aF):eD f ρ=(f ρ).bind Lg:=rfl
theorem vH {j:Int}(h:j.natAbs<=1000):Lg [.int j]=some (BC 0 j.toNat):=by
 show(if j.natAbs<4000000000 then some (BC 0 j.toNat) else none)=_;rw[if_pos (by omega)]
theorem j9(i j:Int):bP (.int i) (.int j)=some (.int (i+j)):=rfl
theorem iI(i j:Int):gV (.int i) (.int j)=some (.int (i-j)):=rfl
theorem pC(i j:Int):Cg (.int i) (.int j)=some (.bl (decide (i<j))):=rfl
theorem zS(i j:Int):LW (.int i) (.int j)=some (.bl (decide (j<=i))):=rfl
theorem dD {i j:Int}(h:0<j):cB (.int i) (.int j)=some (.int (i % j)):=by
 unfold cB i2;dsimp only;rw[if_pos (by simpa using h)]
theorem xV {n:Nat}(h:n<10^200):n<2^1000:=NV h (by decide)
theorem fQ {i j:Int}(h1:i.natAbs<10^200)(h2:j.natAbs<10^200):dZ (.int i) (.int j)=some (.int (i*j)):=by
 unfold dZ i2;dsimp only;rw[if_pos (by rw[decide_eq_true (xV h1),decide_eq_true (xV h2)];rfl)]
theorem sQ {i j:Int}(h1:0<j)(h2:j.natAbs<10^200):mr (.int i) (.int j)=some (.int (i / j)):=by
 unfold mr i2;dsimp only;rw[if_pos (by rw[decide_eq_true h1,decide_eq_true (xV h2)];rfl)]
theorem me {i j:Int}(h0:0<=j)(h1:j<=1000000)(h2:i.natAbs<2^64):eX (.int i) (.int j)=some (.int (i^j.toNat)):=by
 unfold eX i2;dsimp only;rw[if_pos (by rw[decide_eq_true h0,decide_eq_true h1,decide_eq_true h2];rfl)]
theorem oK {x y:D}(h:fq x<=32):pJ x y=some (.bl (dq x y)):=if_pos h
theorem jW {x y:D}(h:fq x<=32):l9 x y=some (.bl (!dq x y)):=if_pos h
theorem jb(i j:Int):dq (.int i) (.int j)=decide (i=j):=by
 unfold dq;rw[Ov];simp
theorem fM(i:Int):fq (.int i)=0:=by unfold fq;rfl
structure Bag(N:Nat)(a b:Int):Prop where
 a0:0<=a
 a1:a.natAbs<10^180
 b0:0<=b
 b1:b<=N
 lo:b≠0->a.natAbs<2147483647
abbrev aH(a b:Int):List D:=[.int a,.int b]
def uO:FS:=
 aC (fB (bQ (aw Cg (ai 1) (ak cS (aa (ai 0) (aj))))) (aW (aw bo (ai 0) (ai 1))) (skip))
 (aW (aD (.int 0)))
def g6:List D->Option D:=dP .s 2 uO
def Dz:FS:=
 aC (a8 2 (aw cB (ak wo (aa (ak (nF 2 g6) (aa (ai 0) (aa (ai 1) (aj)))) (aj))) (aw dZ (aw dZ (aw eX (aD (.int 10)) (aD (.int 60))) (aw eX (aD (.int 10)) (aD (.int 60)))) (aw eX (aD (.int 10)) (aD (.int 60))))))
 (aC (fB (bQ (aw LW (ai 2) (aw eX (aD (.int 10)) (aD (.int 18))))) (aW (cq (aa (ai 2) (aa (aD (.int 0)) (aj))))) (skip))
 (aC (a8 3 (aw cB (aw bP (aw bP (ai 2) (aw dZ (aD (.int 7919)) (ai 1))) (aD (.int 17))) (aD (.int 2147483647))))
 (aC (jn (cN (eD (aa (ak lg (aa (ak cS (aa (ai 0) (aj))) (aa (aD (.int 9)) (aj)))) (aj)))) (gN 4) (a8 3 (aw cB (aw bP (aw bP (aw eX (ai 3) (aD (.int 5))) (aw cB (aw bo (ai 0) (ai 4)) (aD (.int 2147483629)))) (aw dZ (aD (.int 31)) (ai 4))) (aD (.int 2147483647)))))
 (aW (cq (aa (ai 3) (aa (aD (.int 1)) (aj))))))))
def Dx:List D->Option D:=dP .n 5 Dz
def tE:FS:=
 aC (fB (bQ (aw pJ (aw bo (eB 0) (aD (.int 1))) (aD (.int 0)))) (aC (a8 2 (aw cB (aw bo (eB 0) (aD (.int 0))) (ai 1)))
 (aC (cy (cT 0 (aD (.int 0))) (pu (aw mr (aw bo (eB 0) (aD (.int 0))) (ai 1))))
 (aW (ai 2)))) (skip))
 (aC (cy (cT 0 (aD (.int 0))) (pu (aw cB (aw bP (aw bP (aw eX (aw bo (eB 0) (aD (.int 0))) (aD (.int 5))) (aw dZ (aD (.int 48271)) (aw bo (eB 0) (aD (.int 1))))) (aD (.int 11))) (aD (.int 2147483647)))))
 (aC (cy (cT 0 (aD (.int 1))) (pu (aw bP (aw bo (eB 0) (aD (.int 1))) (aD (.int 1)))))
 (aW (aw cB (aw mr (aw cB (aw dZ (aw bo (eB 0) (aD (.int 0))) (aD (.int 69621))) (aD (.int 2147483629))) (aD (.int 8))) (ai 1)))))
def gY:List D->List D->Option (D×List D):=BZ .s 3 tE
def v7:FS:=
 aC (gH 2 (G1 (ai 1)))
 (aC (gH 3 (cq (aj)))
 (aC (u0 (bQ (aw l9 (eB 2) (cq (aj)))) (cu (aQ 3 1 ic (ga (aQ 2 1 rL (ga (aQ 0 1 gY (cN (aa (ak cS (aa (eB 2) (aj))) (aj)))) (cN (aj)))) (cN (aj))))) 16)
 (w8 3)))
def wA:List D->List D->Option (D×List D):=BZ .n 4 v7
theorem dg {i m:Int}(h:0<m):0<=i % m/\i % m<m:=⟨WS _ (by omega),VO _ h⟩
theorem pA {N:Nat}{a b m:Int}(B:Bag N a b)(hN:N<=1000000000)(hm:0<m)(hm2:m.natAbs<10^20): ∃d a' b',gY (aH a b) [.int m]=some (.int d,aH a' b')/\Bag (N+1) a' b'/\0<=d/\d<m:=by
 have hm3:m.natAbs<10^200:=NV hm2 (by decide)
 by_cases hb:b=0
 ·subst hb;refine⟨a % m,a / m,0,?_,⟨W0 B.a0 (by omega),?_,by omega,by omega,λz=>absurd rfl z⟩,dg hm⟩
  ·simp[gY,BZ,tE,ud,aH,aC,fB,bQ,aw,bo,eB,ai,aD,oK,jb,fM,BA,sA,wS,a8,dD hm,cy,pu,sQ hm hm3,cT,i9,ig,JL,aW,rE]
  ·have h1:=B.a1;have:a / m<=a:=Int.ediv_le_self _ B.a0;have:0<=a / m:=W0 B.a0 (by omega);omega
 ·have lo:=B.lo hb;have p1:a.natAbs<2^64:=R4 lo (by decide);have p2:b.natAbs<10^200:=NV (show b.natAbs<10^10 by have:=B.b1;have:=B.b0;omega) (by decide);generalize hA:(a^5+48271*b+11) % 2147483647=A;have hA':0<=A/\A<2147483647:=by rw[<-hA];exact dg (by decide)
  have p3:A.natAbs<10^200:=NV (show A.natAbs<10^10 by omega) (by decide);refine⟨A*69621 % 2147483629 / 8 % m,A,b+1,?_,⟨hA'.1,?_,by have:=B.b0;omega,by have:=B.b1;omega,λ_=>by omega⟩,dg hm⟩
  ·have c1:(48271:Int).natAbs<10^200:=NV (show(48271:Int).natAbs<10^10 by decide) (by decide);have c2:(69621:Int).natAbs<10^200:=NV (show(69621:Int).natAbs<10^10 by decide) (by decide);have c3:(8:Int).natAbs<10^200:=NV (show(8:Int).natAbs<10^10 by decide) (by decide);have e1:eX (.int a) (.int 5)=some (.int (a^5)):=me (by decide) (by decide) p1;have e2:dZ (.int 48271) (.int b)=some (.int (48271*b)):=fQ c1 p2;have e3: ∀i:Int,cB (.int i) (.int 2147483647)=some (.int (i % 2147483647)):=λi=>dD (by decide)
   have e4: ∀i:Int,cB (.int i) (.int 2147483629)=some (.int (i % 2147483629)):=λi=>dD (by decide)
   have e5:dZ (.int A) (.int 69621)=some (.int (A*69621)):=fQ p3 c2;have e6: ∀i:Int,mr (.int i) (.int 8)=some (.int (i / 8)):=λi=>sQ (by decide) c3
   simp[gY,BZ,tE,ud,aH,aC,fB,bQ,aw,bo,eB,ai,aD,oK,jb,fM,BA,sA,wS,hb,skip,e1,e2,e3,e4,j9,cy,pu,cT,i9,ig,JL,aW,rE,hA,e5,e6,dD hm]
  ·exact NV (show A.natAbs<10^10 by omega) (by decide)
theorem aA {t u:FS}{ρ ρ':aF}(h:t ρ=.nx ρ'):aC t u ρ=u ρ':=by unfold aC;rw[h]
theorem nW {t u:FS}{ρ ρ':aF}{d:D}(h:t ρ=.rt d ρ'):aC t u ρ=.rt d ρ':=by unfold aC;rw[h]
abbrev nI(i:Nat):D:=.int (i:Int)
abbrev kK(ns:List Int):D:=.scr (ns.map D.int)
theorem E4(n:Nat):BC 0 n=(ND n).map nI:=by
 unfold BC;simp
theorem kq {n j:Nat}(h:j<n):wS n (j:Int)=some j:=by
 unfold wS;rw[if_pos (by omega),if_pos (by omega)];simp
theorem FH(ns:List Int)(k:Nat): ∃c,g6 [kK ns,nI k]=some (.int c):=by
 by_cases h:k<ns.length
 ·refine⟨ns[k],?_⟩;simp[g6,dP,uO,ka,aC,fB,bQ,aw,ai,ak,aa,aj,cS,pC,BA,h,aW,bo,sA,kq (show k<(ns.map D.int).length by simpa using h)];simp[kq h,h]
 ·refine⟨0,?_⟩;simp[g6,dP,uO,ka,aC,fB,bQ,aw,ai,ak,aa,aj,cS,pC,BA,h,aW,skip,aD]
theorem vt(ns:List Int)(k:D)(c:D): ∀(l:List Nat),(∀i∈l,i<ns.length/\i<1000)-> ∀(x:Int) (s4:Sl),0<=x->x<2147483647-> ∃(x':Int) (s4':Sl),0<=x'/\x'<2147483647/\
 fO (gN 4) (a8 3 (aw cB (aw bP (aw bP (aw eX (ai 3) (aD (.int 5))) (aw cB (aw bo (ai 0) (ai 4)) (aD (.int 2147483629)))) (aw dZ (aD (.int 31)) (ai 4))) (aD (.int 2147483647)))) (l.map nI) [.v (kK ns),.v k,.v c,.v (.int x),s4]=.nx [.v (kK ns),.v k,.v c,.v (.int x'),s4']
 | [],_,x,s4,h1,h2=>⟨x,s4,h1,h2,rfl⟩
 |i::l,hl,x,s4,h1,h2=>by
  obtain⟨hi,hi2⟩:=hl i (by simp);have e1:eX (.int x) (.int 5)=some (.int (x^5)):=me (by decide) (by decide) (NV (show x.natAbs<10^10 by omega) (by decide));have e2:dZ (.int 31) (nI i)=some (.int (31*i)):=fQ (NV (show(31:Int).natAbs<10^10 by decide) (by decide)) (NV (show(i:Int).natAbs<10^10 by omega) (by decide));have e3: ∀i:Int,cB (.int i) (.int 2147483647)=some (.int (i % 2147483647)):=λi=>dD (by decide)
  have e4: ∀i:Int,cB (.int i) (.int 2147483629)=some (.int (i % 2147483629)):=λi=>dD (by decide)
  obtain⟨y1,y2⟩:=dg (i:=x^5+ns[i] % 2147483629+31*i) (m:=2147483647) (by decide);obtain⟨x',s4',g1,g2,g3⟩:=vt ns k c l (λj hj=>hl j (by simp[hj])) _ (.v (nI i)) y1 y2;refine⟨x',s4',g1,g2,?_⟩;rw[<-g3];simp[fO,gN,a8,aw,ai,aD,e1,e2,e3,e4,bo,sA,kq (show i<(ns.map D.int).length by simpa using hi),kq hi,hi,j9]
theorem JB(ns:List Int)(k:Nat)(hk:k<=1000)(hn:ns.length<=63): ∃a b,Dx [kK ns,nI k]=some (.lst (aH a b))/\Bag 1 a b:=by
 obtain⟨c,hc⟩:=FH ns k;have p1:eX (.int 10) (.int 60)=some (.int (10^60)):=me (by decide) (by decide) (by decide);have p2:eX (.int 10) (.int 18)=some (.int (10^18)):=me (by decide) (by decide) (by decide);have q60:((10:Int)^60).natAbs<10^200:=by decide
 have q120:((10:Int)^60*10^60).natAbs<10^200:=by decide
 have m1:dZ (.int (10^60)) (.int (10^60))=some (.int (10^60*10^60)):=fQ q60 q60;have m2:dZ (.int (10^60*10^60)) (.int (10^60))=some (.int (10^60*10^60*10^60)):=fQ q120 q60;have m3:dZ (.int 7919) (nI k)=some (.int (7919*k)):=fQ (NV (show(7919:Int).natAbs<10^10 by decide) (by decide)) (NV (show(k:Int).natAbs<10^10 by omega) (by decide));generalize hA:(if c<0 then -c else c) % (10^60*10^60*10^60)=A;have hA':0<=A/\A<10^60*10^60*10^60:=by rw[<-hA];exact dg (by decide)
 have s1:a8 2 (aw cB (ak wo (aa (ak (nF 2 g6) (aa (ai 0) (aa (ai 1) (aj)))) (aj))) (aw dZ (aw dZ (aw eX (aD (.int 10)) (aD (.int 60))) (aw eX (aD (.int 10)) (aD (.int 60)))) (aw eX (aD (.int 10)) (aD (.int 60))))) [.v (kK ns),.v (nI k),.no,.no,.no]=.nx [.v (kK ns),.v (nI k),.v (.int A),.no,.no]:=by
  have m4: ∀i:Int,cB (.int i) (.int (10^60*10^60*10^60))=some (.int (i % (10^60*10^60*10^60))):=λi=>dD (by decide)
  unfold a8;have:aw cB (ak wo (aa (ak (nF 2 g6) (aa (ai 0) (aa (ai 1) (aj)))) (aj))) (aw dZ (aw dZ (aw eX (aD (.int 10)) (aD (.int 60))) (aw eX (aD (.int 10)) (aD (.int 60)))) (aw eX (aD (.int 10)) (aD (.int 60)))) [.v (kK ns),.v (nI k),.no,.no,.no]=some (.int A):=by
   have ec:ak (nF 2 g6) (aa (ai 0) (aa (ai 1) aj)) [.v (kK ns),.v (nI k),.no,.no,.no]=some (.int c):=hc;simp only[aw,ak,aa,aj,aD,NN,p1,m1,m2,wo];have ec':((ai 0 [.v (kK ns),.v (nI k),.no,.no,.no]).bind λd=>((ai 1 [.v (kK ns),.v (nI k),.no,.no,.no]).bind λd=>(some []).map λr=>d::r).map λr=>d::r).bind (nF 2 g6)=some (.int c):=hc;rw[ec'];simp only[NN,Rj,m4,wo,hA]
  rw[this];rfl
 have r0:ka 5 [kK ns,nI k]=[.v (kK ns),.v (nI k),.no,.no,.no]:=rfl;unfold Dx dP Dz;rw[r0,aA s1];have hA180:A.natAbs<10^180:=by
  have:(10:Int)^60*10^60*10^60=((10^180:Nat):Int):=by decide
  rw[this] at hA';omega
 by_cases hb:(10:Int)^18<=A
 ·refine⟨A,0,?_,⟨hA'.1,hA180,by decide,by decide,λz=>absurd rfl z⟩⟩;simp only[aC,fB,bQ,aw,ai,Qq,P1,NN,aD,p2,zS,BA,decide_eq_true hb,aW,nu,aa,aj,Rj];rw[eH (by simp)]
 ·generalize hx:(A+7919*(k:Int)+17) % 2147483647=x;have hx':0<=x/\x<2147483647:=by rw[<-hx];exact dg (by decide)
  have m4:cB (.int (A+7919*(k:Int)+17)) (.int 2147483647)=some (.int x):=by rw[dD (by decide),hx]
  have hr:eD (aa (ak lg (aa (ak cS (aa (ai 0) (aj))) (aa (aD (.int 9)) (aj)))) (aj)) [.v (kK ns),.v (nI k),.v (.int A),.v (.int x),.no]=some ((ND (min ns.length 9)).map nI):=by
   rw[vC];simp only[ak,aa,aj,ai,aD,P1,NN,Rj,cS,lg,NK];have:(if(9:Int)<(ns.length:Int) then(9:Int) else(ns.length:Int))=((min ns.length 9:Nat):Int):=by split<;>omega
   rw[this,vH (by omega),E4,PL]
  obtain⟨x',s4',g1,g2,g3⟩:=vt ns (nI k) (.int A) (ND (min ns.length 9)) (λi hi=>by have:=NF.mp hi;omega) x .no hx'.1 hx'.2;refine⟨x',1,?_,⟨g1,NV (show x'.natAbs<10^10 by omega) (by decide),by decide,by decide,λ_=>by omega⟩⟩;have f1:jn (cN (eD (aa (ak lg (aa (ak cS (aa (ai 0) (aj))) (aa (aD (.int 9)) (aj)))) (aj)))) (gN 4) (a8 3 (aw cB (aw bP (aw bP (aw eX (ai 3) (aD (.int 5))) (aw cB (aw bo (ai 0) (ai 4)) (aD (.int 2147483629)))) (aw dZ (aD (.int 31)) (ai 4))) (aD (.int 2147483647)))) [.v (kK ns),.v (nI k),.v (.int A),.v (.int x),.no]=.nx [.v (kK ns),.v (nI k),.v (.int A),.v (.int x'),s4']:=by
   unfold jn cN;rw[hr];exact g3
  have i1:fB (bQ (aw LW (ai 2) (aw eX (aD (.int 10)) (aD (.int 18))))) (aW (cq (aa (ai 2) (aa (aD (.int 0)) (aj))))) (skip) [.v (kK ns),.v (nI k),.v (.int A),.no,.no]=.nx [.v (kK ns),.v (nI k),.v (.int A),.no,.no]:=by
   simp only[fB,bQ,aw,ai,Qq,P1,NN,aD,p2,zS,BA,decide_eq_false hb,skip]
  have i2:a8 3 (aw cB (aw bP (aw bP (ai 2) (aw dZ (aD (.int 7919)) (ai 1))) (aD (.int 17))) (aD (.int 2147483647))) [.v (kK ns),.v (nI k),.v (.int A),.no,.no]=.nx [.v (kK ns),.v (nI k),.v (.int A),.v (.int x),.no]:=by
   simp only[a8,aw,ai,Qq,P1,NN,aD,m3,j9,m4,Ts,List.set_cons_zero]
  rw[aA i1,aA i2,aA f1];simp only[aW,nu,aa,aj,ai,aD,Qq,P1,NN,Rj];rw[eH (by simp)]
theorem dM {i n:Nat}{M:List D->List D->Option (D×List D)}{fs:GA}{ρ ρ1:aF}{b0 bs ds bs':List D}{d:D}(h0:i9 i ρ=some b0)(h1:fs ρ=some (ds,ρ1))(h2:i9 i ρ1=some bs)(h3:ds.length=n)(h4:M bs ds=some (d,bs')):aQ i n M fs ρ=some (d,ig i bs' ρ1):=by
 unfold aQ;rw[h0];dsimp only;rw[h1];dsimp only;rw[h2];dsimp only;rw[if_pos h3,h4]
theorem mJ {f:GE}{fs:GA}{ρ ρ1 ρ2:aF}{d:D}{ds:List D}(h1:f ρ=some (d,ρ1))(h2:fs ρ1=some (ds,ρ2)):ga f fs ρ=some (d::ds,ρ2):=by
 unfold ga bE;rw[h1];dsimp only[Rz];rw[h2];rfl
theorem cF {f:FA}{ρ:aF}{ds:List D}(h:f ρ=some ds):cN f ρ=some (ds,ρ):=by unfold cN;rw[h];rfl
theorem fU {f:FE}{ρ:aF}{d:D}(h:f ρ=some d):pu f ρ=some (d,ρ):=by unfold pu;rw[h];rfl
theorem sk {α β:Type}(f:α->β): ∀(l:List α) (j:Nat),(l.map f).eraseIdx j=(l.eraseIdx j).map f
 | [],_=>rfl
 |_::_,0=>rfl
 |x::l,j+1=>by simp[sk f l j]
theorem qD {α:Type}: ∀(l:List α) (j:Nat) (h:j<l.length),(l[j]::l.eraseIdx j).Perm l
 |_::_,0,_=>.refl _
 |x::l,j+1,h=>by
  have ih:=qD l j (by simpa using h);exact(Vc _ _ _).trans (ih.cons x)
theorem hZ: ∀r:List Nat,cE (r.map nI)=0
 | []=>by simp[cE]
 |a::r=>by
  rw[NS];unfold cE;rw[hZ r];simp[fq]
theorem wf(r:List Nat):fq (.lst (r.map nI))<=32:=by unfold fq;rw[hZ];omega
abbrev M3:FS->Nat->FS:=λb n=>u0 (bQ (aw l9 (eB 2) (cq (aj)))) b n
abbrev sF:FS:=cu (aQ 3 1 ic (ga (aQ 2 1 rL (ga (aQ 0 1 gY (cN (aa (ak cS (aa (eB 2) (aj))) (aj)))) (cN (aj)))) (cN (aj))))
theorem Kq(n:D)(bg:List D)(left found:List Nat):bQ (aw l9 (eB 2) (cq (aj))) [.arg bg,.v n,.own (left.map nI),.own (found.map nI)]=some (!left.isEmpty):=by
 have h0:cq aj [.arg bg,.v n,.own (left.map nI),.own (found.map nI)]=some (.lst []):=by
  rw[nu];simp only[aj,NN];exact eH (by simp)
 unfold bQ aw;rw[h0];simp only[eB,Qq,P1,NN];rw[jW (wf left)];cases left with
 |nil=>simp[BA,dq,c7]
 |cons x r=>simp[BA,dq,c7]
theorem CC(n:D){N:Nat}{a b:Int}(B:Bag N a b)(hN:N<=1000000000)(left found:List Nat)(h0:0<left.length)(h1:left.length<=100)(h2:found.length<=100):
 ∃(j:Nat) (hj:j<left.length) (a' b':Int),sF [.arg (aH a b),.v n,.own (left.map nI),.own (found.map nI)]=.nx [.arg (aH a' b'),.v n,.own ((left.eraseIdx j).map nI),.own ((found++[left[j]]).map nI)]/\Bag (N+1) a' b':=by
 obtain⟨d,a',b',e,B',d0,d1⟩:=pA (m:=left.length) B hN (by omega) (NV (show(left.length:Int).natAbs<10^10 by omega) (by decide));obtain⟨j,rfl⟩: ∃j:Nat,d=(j:Int):=⟨d.toNat,by omega⟩
 have hj:j<left.length:=by omega
 refine⟨j,hj,a',b',?_,B'⟩;have e2:rL (left.map nI) [.int (j:Int)]=some (nI left[j],(left.eraseIdx j).map nI):=by
  rw[Gn,eH (by simp;omega)];simp only[NN];rw[kq (by simpa using hj)];simp[hj,sk]
 have e3:ic (found.map nI) [nI left[j]]=some (.non,(found++[left[j]]).map nI):=by
  rw[Ay,se (by simp;omega)];simp
 have g:aQ 0 1 gY (cN (aa (ak cS (aa (eB 2) (aj))) (aj))) [.arg (aH a b),.v n,.own (left.map nI),.own (found.map nI)]=some (nI j,[.arg (aH a' b'),.v n,.own (left.map nI),.own (found.map nI)]):=by
  simp[aQ,i9,cN,aa,ak,eB,aj,cS,e,ig]
 have g2:aQ 2 1 rL (ga (aQ 0 1 gY (cN (aa (ak cS (aa (eB 2) (aj))) (aj)))) (cN (aj))) [.arg (aH a b),.v n,.own (left.map nI),.own (found.map nI)]=some (nI left[j],[.arg (aH a' b'),.v n,.own ((left.eraseIdx j).map nI),.own (found.map nI)]):=by
  refine(dM (i:=2) (n:=1) (b0:=left.map nI) (ds:=[nI j]) (ρ1:=[.arg (aH a' b'),.v n,.own (left.map nI),.own (found.map nI)]) rfl (mJ g rfl) rfl rfl e2).trans rfl
 have g3:aQ 3 1 ic (ga (aQ 2 1 rL (ga (aQ 0 1 gY (cN (aa (ak cS (aa (eB 2) (aj))) (aj)))) (cN (aj)))) (cN (aj))) [.arg (aH a b),.v n,.own (left.map nI),.own (found.map nI)]=some (.non,[.arg (aH a' b'),.v n,.own ((left.eraseIdx j).map nI),.own ((found++[left[j]]).map nI)]):=by
  refine(dM (i:=3) (n:=1) (b0:=found.map nI) (ds:=[nI left[j]]) (ρ1:=[.arg (aH a' b'),.v n,.own ((left.eraseIdx j).map nI),.own (found.map nI)]) rfl (mJ g2 rfl) rfl rfl e3).trans rfl
 unfold sF cu;rw[g3]
theorem HC(n:D): ∀(f:Nat) (left found:List Nat) (N:Nat) (a b:Int),left.length<f->left.length<=50->found.length+left.length<=100->Bag N a b->N+left.length<=1000000000->
 ∃(o:List Nat) (a' b':Int),M3 sF f [.arg (aH a b),.v n,.own (left.map nI),.own (found.map nI)]=.nx [.arg (aH a' b'),.v n,.own [],.own ((found++o).map nI)]/\o.Perm left/\Bag (N+left.length) a' b'
 |0,left,found,N,a,b,h,_,_,_,_=>absurd h (UI _)
 |f+1,left,found,N,a,b,h,h1,h2,B,hN=>by
  unfold M3 u0;rw[Kq];cases e:left.isEmpty with
  |true=>
   have:left=[]:=by simpa using e
   subst this;exact⟨[],a,b,by simp,.refl _,by simpa using B⟩
  |false=>
   have h0:0<left.length:=by cases left with
    |nil=>cases e
    |cons x r=>simp
   obtain⟨j,hj,a1,b1,e1,B1⟩:=CC n B (by omega) left found h0 (by omega) (by omega);have hl:(left.eraseIdx j).length=left.length-1:=by rw[PX];simp[hj]
   obtain⟨o,a2,b2,e2,p,B2⟩:=HC n f (left.eraseIdx j) (found++[left[j]]) (N+1) a1 b1 (by omega) (by omega) (by simp;omega) B1 (by omega);refine⟨left[j]::o,a2,b2,?_,?_,?_⟩
   ·simp only[XI];rw[e1];dsimp only;have:u0 (bQ (aw l9 (eB 2) (cq aj))) sF f=M3 sF f:=rfl;rw[this,e2];simp
   ·exact(p.cons _).trans (qD left j hj)
   ·rw[show N+left.length=N+1+(left.eraseIdx j).length by omega];exact B2
structure Ord(n:Nat)(r:List Nat):Prop where
 perm:r.Perm (ND n)
theorem Ord.len {n:Nat}{r:List Nat}(o:Ord n r):r.length=n:=by rw[o.perm.length_eq];simp
theorem Ord.lt {n:Nat}{r:List Nat}(o:Ord n r){v:Nat}(h:v∈r):v<n:=by simpa using o.perm.mem_iff.mp h
theorem Ord.has {n:Nat}{r:List Nat}(o:Ord n r){v:Nat}(h:v<n):v∈r:=o.perm.mem_iff.mpr (by simpa using h)
theorem Ord.nd {n:Nat}{r:List Nat}(o:Ord n r):r.Nodup:=o.perm.nodup_iff.mpr Oh
theorem Hs {n:Nat}(h:n<=1000)(f:FE)(ρ:aF)(e:f ρ=some (nI n)):G1 f ρ=some (.lst ((ND n).map nI)):=by
 unfold G1 Hb;rw[e];simp only[NN];rw[if_pos (by omega),E4];rfl
theorem ql {N:Nat}{a b:Int}(B:Bag N a b){n:Nat}(hn:n<=12)(hN:N<=900000000): ∃(o:List Nat) (a' b':Int),wA (aH a b) [nI n]=some (.lst (o.map nI),aH a' b')/\Ord n o/\Bag (N+n) a' b':=by
 obtain⟨o,a',b',e,p,B'⟩:=HC (nI n) 16 (ND n) [] N a b (by simp;omega) (by simp;omega) (by simp;omega) B (by simp;omega);refine⟨o,a',b',?_,⟨p⟩,by simpa using B'⟩;have r0:ud 4 (aH a b) [nI n]=[.arg (aH a b),.v (nI n),.no,.no]:=rfl;have s1:gH 2 (G1 (ai 1)) [.arg (aH a b),.v (nI n),.no,.no]=.nx [.arg (aH a b),.v (nI n),.own ((ND n).map nI),.no]:=by
  unfold gH;rw[Hs (n:=n) (by omega) (ai 1) _ rfl];rfl
 have s2:gH 3 (cq (aj)) [.arg (aH a b),.v (nI n),.own ((ND n).map nI),.no]=.nx [.arg (aH a b),.v (nI n),.own ((ND n).map nI),.own []]:=by
  unfold gH;rw[nu];simp only[aj,NN];rw[eH (by simp)];rfl
 unfold wA BZ v7;rw[r0,aA s1,aA s2];have e':u0 (bQ (aw l9 (eB 2) (cq (aj)))) sF 16 [.arg (aH a b),.v (nI n),.own ((ND n).map nI),.own []]=.nx [.arg (aH a' b'),.v (nI n),.own [],.own (o.map nI)]:=e;rw[aA e'];simp[w8,xp,rE]
theorem aB {F:D->D->Option D}{f g:FE}{ρ:aF}{x y:D}(h1:f ρ=some x)(h2:g ρ=some y):aw F f g ρ=F x y:=by unfold aw;rw[h1,NN,h2,NN]
theorem F9 {F:D->D->Option D}{f g:GE}{ρ ρ1 ρ2:aF}{x y d:D}(h1:f ρ=some (x,ρ1))(h2:g ρ1=some (y,ρ2))(h3:F x y=some d):xo F f g ρ=some (d,ρ2):=by
 unfold xo bE;rw[h1];dsimp only[Rz];rw[h2];dsimp only[Rz];rw[h3];rfl
theorem bd {i:Nat}{f:FE}{ρ:aF}{d:D}(h:f ρ=some d):a8 i f ρ=.nx (ρ.set i (.v d)):=by unfold a8;rw[h]
theorem kI {i:Nat}{f:GE}{ρ ρ1:aF}{d:D}(h:f ρ=some (d,ρ1)):ki i f ρ=.nx (ρ1.set i (.v d)):=by unfold ki;rw[h]
theorem FC {i:Nat}{f:GE}{ρ ρ1:aF}{ds:List D}(h:f ρ=some (.lst ds,ρ1)):Ds i f ρ=.nx (ρ1.set i (.own ds)):=by unfold Ds;rw[h];rfl
theorem mw {i:Nat}{f:FE}{ρ:aF}{ds:List D}(h:f ρ=some (.lst ds)):gH i f ρ=.nx (ρ.set i (.own ds)):=by unfold gH;rw[h];rfl
theorem ck {f:FA}{ρ:aF}{ds:List D}(h:f ρ=some ds)(h2:ds.length<=1000):cz f ρ=some (.tup ds):=by
 rw[Hc,h,NN,eH h2]
theorem fo {f:FA}{ρ:aF}{ds:List D}(h:f ρ=some ds)(h2:ds.length<=1000):cq f ρ=some (.lst ds):=by
 rw[nu,h,NN,eH h2]
theorem al {f:FE}{fs:FA}{ρ:aF}{d:D}{ds:List D}(h1:f ρ=some d)(h2:fs ρ=some ds):aa f fs ρ=some (d::ds):=by unfold aa;rw[h1,h2];rfl
theorem bD {F:List D->Option D}{f:FA}{ρ:aF}{ds:List D}(h:f ρ=some ds):ak F f ρ=F ds:=by unfold ak;rw[h];rfl
theorem HR {r:List Nat}{c:Nat}(h:c<r.length):sA (r.map nI) (c:Int)=some (nI (r.getD c 0)):=uq (by rw[OH,NL h];simp[OJ,h])
theorem As {r:List Nat}{c:Nat}(h:c<r.length):bo (.lst (r.map nI)) (nI c)=some (nI (r.getD c 0)):=HR h
theorem gb {r:List Nat}{c:Nat}(h:c<r.length):bo (.tup (r.map nI)) (nI c)=some (nI (r.getD c 0)):=HR h
theorem iX(a b:Nat):dq (nI a) (nI b)=decide (a=b):=by
 rw[jb];rw[Ov];simp;omega
theorem MK(a b:Nat):bP (nI a) (nI b)=some (nI (a+b)):=by rw[j9];simp
theorem Ce(a:Nat):bP (nI a) (.int 1)=some (nI (a+1)):=by rw[j9];simp
theorem LA {a n:Nat}(h:0<n):cB (nI a) (nI n)=some (nI (a % n)):=by rw[dD (by omega)];rfl
theorem mX {i:Nat}{fi:FE}{d:D}{ρ:aF}{bs:List D}{j:Nat}(h1:i9 i ρ=some bs)(h2:fi ρ=some (nI j))(h3:j<bs.length):cT i fi d ρ=some (ig i (bs.set j d) ρ):=by
 unfold cT;rw[h1];dsimp only;rw[h2];dsimp only;rw[kq h3]
theorem qc(x:List Nat)(j v:Nat):(x.map nI).set j (nI v)=(x.set j v).map nI:=by rw[List.map_set]
theorem swap_perm(x:List Nat)(c d:Nat)(hc:c<x.length)(hd:d<x.length):((x.set c (x.getD d 0)).set d (x.getD c 0)).Perm x:=by
 have e:(x.toArray.swap c d (by simpa using hc) (by simpa using hd)).toList=(x.set c (x.getD d 0)).set d (x.getD c 0):=by
  simp[Array.toList_swap,OJ,hc,hd]
 rw[<-e];have:=Array.swap_perm (xs:=x.toArray) (i:=c) (j:=d) (by simpa using hc) (by simpa using hd);simpa using (Tq.mp this)
theorem Iv {x:List Nat}(h:x.Nodup){i j:Nat}(hi:i<x.length)(hj:j<x.length)(e:x.getD i 0=x.getD j 0):i=j:=by
 have:x[i]=x[j]:=by simpa [OJ,hi,hj] using e
 exact(Wv h).mp this
theorem eJ {α:Type}{g:FG}{f:FE}{ρ0:aF}{h o:α->D}: ∀(l:List α),(∀i∈l,∃ρ1,g (h i) ρ0=some ρ1/\f ρ1=some (o i))->dm g bT f ρ0 (l.map h)=some (l.map o)
 | [],_=>rfl
 |a::l,H=>by
  obtain⟨ρ1,h1,h2⟩:=H a (by simp);have ih:=eJ l λi hi=>H i (by simp[hi])
  rw[NS];unfold dm;rw[h1,NN];simp only[bT,NN,if_true,h2,ih];rfl
theorem c9 {m:Nat}{gi:FA}{g:FG}{p:FT}{f:FE}{ρ:aF}{ds ys:List D}(h1:gi ρ=some ds)(h2:ds.length<=1000)(h3:dm g p f (ρ++NR m .no) ds=some ys):bM m gi g p f ρ=some (.lst ys):=by
 rw[CM,h1,NN,eH h2,NN,h3];rfl
abbrev ay(r:List Nat):D:=.tup (r.map nI)
abbrev c6(r x:List Nat):D:=.tup [ay r,ay x]
theorem gM {f:FA}{ρ:aF}{n:Nat}(h:f ρ=some [nI n])(hn:n<=1000):eD f ρ=some ((ND n).map nI):=by
 rw[vC,h,NN,vH (by omega),E4];rfl
theorem NB {j:Int}(h:0<=j):D.int j=nI j.toNat:=by show D.int j=D.int (j.toNat:Int);rw[Int.toNat_of_nonneg h]
theorem LI {n:Nat}{P:List D->Option D}{ds:List D}(h:ds.length=n):nF n P ds=P ds:=if_pos h
theorem dS {g:FG}{f:GE}{ρ ρ1 ρ2:aF}{d:D}(h1:f ρ=some (d,ρ1))(h2:g d ρ1=some ρ2):cy g f ρ=.nx ρ2:=by unfold cy;rw[h1];dsimp only;rw[h2];rfl
theorem aN {n:Nat}{P:List D->Option D}{fs:FA}{ρ:aF}{ds:List D}(h:fs ρ=some ds)(hl:ds.length=n):ak (nF n P) fs ρ=P ds:=(bD h).trans (LI hl)
theorem vc {F:List D->Option D}{fs:GA}{ρ ρ1:aF}{ds:List D}{d:D}(h:fs ρ=some (ds,ρ1))(h2:F ds=some d):jS F fs ρ=some (d,ρ1):=by unfold jS;rw[h];dsimp only[Rz];rw[h2];rfl
theorem aV {kd:Kd}{n:Nat}{t:FS}{ds:List D}{ρ:aF}{d:D}(h:t (ka n ds)=.rt d ρ):dP kd n t ds=some d:=by unfold dP;rw[h]
theorem aT {f:FE}{ρ:aF}{d:D}(h:f ρ=some d):aW f ρ=.rt d ρ:=by unfold aW;rw[h]
theorem Dj {ks:List (List Int)}(h:ks.length<64)(hk: ∀k∈ks,k≠[]):cO [.lst (ks.map de)]=some (.lst ((bj bu ks).map de)):=by
 show(hW (ks.map de)).map D.lst=_;unfold hW;rw[if_pos (by simpa using h)];cases ks with
 |nil=>rfl
 |cons k ks=>
  rw[BK];dsimp only;rw[vi hk];rfl
theorem uh: ∀bs:List Bool,iH (bs.map D.bl)=some bs
 | []=>rfl
 |b::r=>by show(iH (r.map D.bl)).map (b:: ·)=_;rw[uh r];rfl
theorem tN(bs:List Bool):vS [.lst (bs.map D.bl)]=some (.bl (bs.any id)):=by
 show(iH (bs.map D.bl)).map (λbs=>D.bl (bs.any id))=_;rw[uh];rfl
theorem GK(bs:List Bool):Fa [.lst (bs.map D.bl)]=some (.bl (bs.all id)):=by
 show(iH (bs.map D.bl)).map (λbs=>D.bl (bs.all id))=_;rw[uh];rfl
theorem mq {p:FT}{t u:FS}{ρ:aF}(h:p ρ=some false):fB p t u ρ=u ρ:=by unfold fB;rw[h]
theorem gF {p:FT}{t u:FS}{ρ:aF}(h:p ρ=some true):fB p t u ρ=t ρ:=by unfold fB;rw[h]
theorem xY {p q:FT}{ρ:aF}{b:Bool}(h1:p ρ=some false)(h2:q ρ=some b):EK p q ρ=some b:=by unfold EK;rw[h1];exact h2
theorem HP {p q:FT}{ρ:aF}(h1:p ρ=some true):EK p q ρ=some true:=by unfold EK;rw[h1];rfl
theorem Fo {p q:FT}{ρ:aF}{b:Bool}(h1:p ρ=some true)(h2:q ρ=some b):gW p q ρ=some b:=by unfold gW;rw[h1];exact h2
theorem JS {p q:FT}{ρ:aF}(h1:p ρ=some false):gW p q ρ=some false:=by unfold gW;rw[h1];rfl
theorem ma {p q:FT}{ρ:aF}{a b:Bool}(h1:p ρ=some a)(h2:a=true->q ρ=some b)(h3:a=false->b=false):gW p q ρ=some b:=by
 cases a with
 |true=>exact Fo h1 (h2 rfl)
 |false=>rw[h3 rfl];exact JS h1
theorem qi {p:FT}{ρ:aF}{b:Bool}(h:p ρ=some b):Av p ρ=some (.bl b):=by unfold Av;rw[h];rfl
theorem CK {f:GE}{ρ ρ1:aF}{d:D}(h:f ρ=some (d,ρ1)):cu f ρ=.nx ρ1:=by unfold cu;rw[h]
theorem bY {f:FE}{ρ:aF}{b:Bool}(h:f ρ=some (.bl b)):bQ f ρ=some b:=by unfold bQ;rw[h];rfl
theorem jd {f:FE}{ρ:aF}{b:Bool}(h:f ρ=some (.bl b)):fA f ρ=some b:=by unfold fA;rw[h];rfl
theorem lU {p:FT}{ρ:aF}{b:Bool}(h:p ρ=some b):jj p ρ=some (!b):=by unfold jj;rw[h];rfl
theorem G6 {x:D}(h:fq x<=32):l9 x x=some (.bl false):=by rw[jW h,mD];rfl
theorem Gh {x:D}(h:fq x<=32):pJ x x=some (.bl true):=by rw[oK h,mD]
theorem fI {g:FG}{b:FS}{d:D}{r:List D}{ρ ρ1 ρ2:aF}(h1:g d ρ=some ρ1)(h2:b ρ1=.nx ρ2):fO g b (d::r) ρ=fO g b r ρ2:=by
 show(match g d ρ with
  |none=>Out.no
  |some ρ1=>match b ρ1 with
   | .nx ρ2=>fO g b r ρ2
   | .ct ρ2=>fO g b r ρ2
   | .bk ρ2=>.nx ρ2
   | .rt d ρ2=>.rt d ρ2
   | .no=>.no)=_
 rw[h1];dsimp only;rw[h2]
theorem js {f:GA}{g:FG}{b:FS}{ρ ρ1:aF}{ds:List D}(h:f ρ=some (ds,ρ1)):jn f g b ρ=fO g b ds ρ1:=by unfold jn;rw[h]
theorem za {f:FE}{ρ:aF}{ds:List D}(h:f ρ=some (.lst ds)):gK f ρ=some ds:=by unfold gK;rw[h];rfl
theorem GR {f:FE}{ρ:aF}{ds:List D}(h:f ρ=some (.tup ds)):wj f ρ=some ds:=by unfold wj;rw[h];rfl
theorem qN {kd:Kd}{n:Nat}{t:FS}{ds:List D}{d:D}(h: ∃ρ,t (ka n ds)=.rt d ρ):dP kd n t ds=some d:=let⟨_,h⟩:=h;aV h
theorem Ii {t u:FS}{ρ:aF}{d:D}(P:aF->Prop)(h: ∃ρ',t ρ=.nx ρ'/\P ρ')(hu: ∀ρ',P ρ'-> ∃ρ'',u ρ'=.rt d ρ''): ∃ρ'',aC t u ρ=.rt d ρ'':=by
 obtain⟨ρ',h1,h2⟩:=h;obtain⟨ρ'',h3⟩:=hu ρ' h2;exact⟨ρ'',(aA h1).trans h3⟩
theorem Ft {f:GA}{g:FG}{b:FS}{ρ ρ1:aF}{ds:List D}{P:aF->Prop}(h:f ρ=some (ds,ρ1))(hl: ∃ρ',fO g b ds ρ1=.nx ρ'/\P ρ'): ∃ρ',jn f g b ρ=.nx ρ'/\P ρ':=by
 obtain⟨ρ',h1,h2⟩:=hl;exact⟨ρ',(js h).trans h1,h2⟩
theorem Ai {g:FG}{b:FS}{P:aF->Prop}: ∀(l:List D),(∀d∈l,∀ρ,P ρ-> ∃ρ1 ρ2,g d ρ=some ρ1/\b ρ1=.nx ρ2/\P ρ2)-> ∀ρ,P ρ-> ∃ρ',fO g b l ρ=.nx ρ'/\P ρ'
 | [],_,ρ,p=>⟨ρ,rfl,p⟩
 |d::l,h,ρ,p=>by
  obtain⟨ρ1,ρ2,h1,h2,p2⟩:=h d (by simp) ρ p;obtain⟨ρ',e,p'⟩:=Ai l (λd' hd=>h d' (by simp[hd])) ρ2 p2;exact⟨ρ',(fI h1 h2).trans e,p'⟩
theorem pE(i:Int){n:Nat}(h:0<n):(i % (n:Int)).toNat<n/\(((i % (n:Int)).toNat:Nat):Int)=i % n:=by
 have:=dg (i:=i) (m:=n) (by omega);omega
theorem uR {i:Nat}{fs:GA}{ρ ρ1:aF}{b0 bs:List D}{d:D}(h0:i9 i ρ=some b0)(h1:fs ρ=some ([d],ρ1))(h2:i9 i ρ1=some bs)(h3:bs.length<=900):cu (aQ i 1 ic fs) ρ=.nx (ig i (bs++[d]) ρ1):=
 CK (dM h0 h1 h2 rfl (by rw[Ay,se (by omega)]))
theorem iE {α:Type}{g:FG}{p:FT}{f:FE}{ρ0:aF}{h o:α->D}{q:α->Bool}: ∀(l:List α),(∀i∈l,∃ρ1,g (h i) ρ0=some ρ1/\p ρ1=some (q i)/\(q i=true->f ρ1=some (o i)))->dm g p f ρ0 (l.map h)=some ((l.filter q).map o)
 | [],_=>rfl
 |a::l,H=>by
  obtain⟨ρ1,h1,h2,h3⟩:=H a (by simp);have ih:=iE l λi hi=>H i (by simp[hi])
  rw[NS];unfold dm;rw[h1,NN,h2,NN];cases e:q a with
  |true=>rw[if_pos rfl,h3 e,NN,ih];simp[e]
  |false=>rw[if_neg (by simp),ih];simp[e]
theorem dz {α:Type}{g:FG}{p:FT}{A:FA}{ρ0:aF}{h:α->D}{q:α->Bool}{o:α->List D}: ∀(l:List α),(∀i∈l,∃ρ1,g (h i) ρ0=some ρ1/\p ρ1=some (q i)/\(q i=true->A ρ1=some (o i)))->qV g p A ρ0 (l.map h)=some ((l.filter q).flatMap o)
 | [],_=>rfl
 |a::l,H=>by
  obtain⟨ρ1,h1,h2,h3⟩:=H a (by simp);have ih:=dz l λi hi=>H i (by simp[hi])
  rw[NS];unfold qV;rw[h1,NN,h2,NN];cases e:q a with
  |true=>rw[if_pos rfl,h3 e,NN,ih];simp[e]
  |false=>rw[if_neg (by simp),ih];simp[e]
theorem kJ {f:FE}{ρ:aF}{d:D}(h:f ρ=some d):v0 f ρ=some [d]:=by unfold v0;rw[h];rfl
theorem kB {m:Nat}{gi1 gi2:FA}{g1 g2:FG}{p1 p2:FT}{f:FE}{ρ:aF}{ds ys:List D}(h1:gi1 ρ=some ds)(h2:qV g1 p1 (Fi gi2 g2 p2 f) (ρ++NR m .no) ds=some ys)(h3:ys.length<=1000):kl m gi1 g1 p1 gi2 g2 p2 f ρ=some (.lst ys):=by
 unfold kl;rw[h1,NN,h2,NN,if_pos (Q9 (kE h3))]
theorem n5 {gi:FA}{g:FG}{p:FT}{f:FE}{ρ:aF}{ds ys:List D}(h1:gi ρ=some ds)(h2:qV g p (v0 f) ρ ds=some ys):Fi gi g p f ρ=some ys:=by
 unfold Fi;rw[h1,NN,h2]
theorem vy(r:List Nat)(ρ:aF)(f:FE)(h:f ρ=some (.lst (r.map nI))):ak cS (aa f aj) ρ=some (nI r.length):=by
 rw[bD (al h rfl)];show some (D.int ((r.map nI).length:Int))=_;rw[NK]
theorem gx(r:List Nat)(ρ:aF)(f:FE)(h:f ρ=some (ay r)):ak cS (aa f aj) ρ=some (nI r.length):=by
 rw[bD (al h rfl)];show some (D.int ((r.map nI).length:Int))=_;rw[NK]
theorem MS(a b:Nat):gV (nI a) (nI b)=some (.int ((a:Int) -b)):=iI _ _
theorem MF {i:Int}{n:Nat}(h:0<n):cB (.int i) (nI n)=some (nI (i % n).toNat):=by
 rw[dD (by omega),NB (dg (i:=i) (m:=n) (by omega)).1]
theorem Du(L:List Nat)(c:Nat):(L.map nI).any (λd=>dq d (nI c))=decide (c∈L):=by
 induction L with
 |nil=>simp
 |cons a L ih=>
  rw[NS,QY,ih,iX,Ov];simp only[PD,decide_eq_true_eq,Oc];exact or_congr_left eq_comm
theorem Mi(L:List Nat)(c:Nat):kR false (nI c) (.lst (L.map nI))=some (.bl (decide (c∈L))):=by
 unfold kR pY;dsimp only;rw[hZ,if_pos (by omega),Du];rfl
def dO:FS:=
 aC (gH 3 (ak qM (aa (ai 0) (aj))))
 (aC (cy (gT 2 (cQ (cT 3 (ai 1)) (cQ (cT 3 (ai 2)) (gU)))) (pu (cz (aa (aw bo (ai 0) (ai 2)) (aa (aw bo (ai 0) (ai 1)) (aj))))))
 (aW (ak jc (aa (eB 3) (aj)))))
def gC:List D->Option D:=dP .s 4 dO
def gO:FS:=
 aW (bM 1 (eD (aa (aw cB (aw gV (ai 2) (ai 1)) (ai 0)) (aj))) (gN 3) (bT) (aw cB (aw bP (ai 1) (ai 3)) (ai 0)))
def gv:List D->Option D:=dP .n 3 gO
def ik:FS:=
 aW (ak (nF 3 gv) (aa (ak cS (aa (ai 0) (aj))) (aa (ai 1) (aa (ai 2) (aj)))))
def fJ:List D->Option D:=dP .n 3 ik
def lD:FS:=
 aW (ak (nF 3 gv) (aa (ak cS (aa (ai 0) (aj))) (aa (aw bo (ai 0) (ai 1)) (aa (aw bo (ai 0) (ai 2)) (aj)))))
def lT:List D->Option D:=dP .n 3 lD
def j3:FS:=
 aC (a8 3 (ak (nF 3 lT) (aa (ai 0) (aa (ai 1) (aa (ai 2) (aj))))))
 (aW (ak cO (aa (kl 2 (gK (ak (nF 3 fJ) (aa (ai 0) (aa (ai 1) (aa (ai 2) (aj)))))) (gN 4) (bT) (gK (ai 3)) (gN 5) (bT) (cz (aa (ai 4) (aa (ai 5) (aj))))) (aj))))
def jX:List D->Option D:=dP .n 4 j3
def nY:FS:=
 aW (ak (nF 3 gC) (aa (ai 0) (aa (ai 1) (aa (ai 2) (aj)))))
def sT:List D->Option D:=dP .s 3 nY
def lN:FS:=
 aC (a8 3 (ft (ak (nF 3 fJ) (aa (ai 0) (aa (ai 1) (aa (ai 2) (aj))))) (jQ (aD (.int 1))) nH))
 (aC (a8 4 (ft (ak (nF 3 lT) (aa (ai 0) (aa (ai 1) (aa (ai 2) (aj))))) (jQ (aD (.int 1))) nH))
 (aW (Av (jj (bQ (ak vS (aa (bM 1 (gK (ai 3)) (gN 5) (bT) (aw (kR false) (aw bo (ai 0) (ai 5)) (ai 4))) (aj))))))))
def qr:List D->Option D:=dP .s 5 lN
def j6:FS:=
 aC (cy (gT 2 (cQ (gN 4) (cQ (gN 5) (gU)))) (pu (ai 0)))
 (aC (a8 6 (bM 2 (gK (ak (nF 3 jX) (aa (ai 1) (aa (ai 2) (aa (ai 3) (aj)))))) (gT 2 (cQ (gN 7) (cQ (gN 8) (gU)))) (bT) (aw (kR false) (ai 8) (cz (aa (aw bo (ai 4) (ai 7)) (aa (aw bo (ai 5) (ai 7)) (aj)))))))
 (aW (Av (jj (bQ (ak vS (aa (ai 6) (aj))))))))
def oT:List D->Option D:=dP .s 7 j6
def lB:FS:=
 aW (Av (gW (bQ (ak (nF 3 qr) (aa (ai 1) (aa (ai 2) (aa (ai 3) (aj)))))) (bQ (ak (nF 4 oT) (aa (ai 0) (aa (ai 1) (aa (ai 2) (aa (ai 3) (aj)))))))))
def qI:List D->Option D:=dP .s 4 lB
def im:FS:=
 aC (a8 2 (G1 (ak cS (aa (ai 1) (aj)))))
 (aW (kl 2 (gK (ai 2)) (gN 3) (bT) (gK (ai 2)) (gN 4) (gW (bQ (aw l9 (ai 3) (ai 4))) (fA (ak (nF 4 qI) (aa (ai 0) (aa (ai 1) (aa (ai 3) (aa (ai 4) (aj)))))))) (cz (aa (ai 3) (aa (ai 4) (aa (ak (nF 3 sT) (aa (ai 1) (aa (ai 3) (aa (ai 4) (aj))))) (aj)))))))
def rq:List D->Option D:=dP .n 3 im
def cH(n s e:Nat):List Nat:=(ND (((e:Int) -s) % n).toNat).map λ(i:Nat)=>(s+i) % n
def bC(n s e x:Nat):Bool:=decide (((x:Int) -s) % n<((e:Int) -s) % n)
def rR(n s e:Nat):List Nat:=(ND n).filter (bC n s e)
theorem ng {n:Nat}(h:0<n)(s e:Nat):(cH n s e).length<n:=by
 unfold cH;rw[NK,Pc];exact(pE _ h).1
theorem kx {n:Nat}(h:0<n){s:Nat}(hs:s<n)(e x:Nat):x∈cH n s e↔x<n/\bC n s e x=true:=by
 unfold cH bC;rw[N5,decide_eq_true_eq];have m:=pE ((e:Int) -s) h;constructor
 ·rintro⟨i,hi,rfl⟩;rw[NF] at hi;refine⟨P4 _ h,?_⟩;rw[Qe,Int.emod_sub_emod,show(((s+i:Nat):Int) -s)=i by omega,O1 (by omega) (by omega)];omega
 ·rintro⟨hx,hb⟩;have m2:=pE ((x:Int) -s) h;refine⟨(((x:Int) -s) % n).toNat,by rw[NF];omega,?_⟩;have:(((s+(((x:Int) -s) % n).toNat) % n:Nat):Int)=x:=by
   rw[Qe,SY,m2.2,Int.add_emod_emod,show(s:Int)+((x:Int) -s)=x by omega,O1 (by omega) (by omega)]
  omega
theorem sY {n:Nat}(h:0<n)(s e:Nat):(cH n s e).Nodup:=by
 unfold cH;have m:=pE ((e:Int) -s) h;show T9 (·≠ ·) _;rw[OY];refine O4 (λ{i j} hi hj hlt e=>?_) Pp;rw[NF] at hi hj;have:(((s+i) % n:Nat):Int)=(((s+j) % n:Nat):Int):=by rw[e]
 rw[Qe,Qe,SY,SY,Zl (s:Int),Zl (s:Int),Tw,O1 (by omega) (by omega),O1 (by omega) (by omega)] at this;omega
theorem plF_mem {n s e x:Nat}:x∈rR n s e↔x<n/\bC n s e x=true:=by unfold rR;rw[OU,NF]
theorem qW {n:Nat}(h:0<n){s:Nat}(hs:s<n)(e:Nat):(cH n s e).Perm (rR n s e):=
 (Ou (sY h s e) (Pn _ Oh)).mpr λx=>(kx h hs e x).trans plF_mem.symm
def fx(A B:List Nat):List (List Int):=A.flatMap λ(a:Nat)=>B.map λ(b:Nat)=>[(a:Int),(b:Int)]
theorem sH {α β:Type}{f g:α->List β}: ∀(l:List α),(∀a∈l,(f a).Perm (g a))->(l.flatMap f).Perm (l.flatMap g)
 | [],_=>.refl _
 |a::l,h=>by
  rw[Oj,Oj];exact(h a (by simp)).append (sH l λb hb=>h b (by simp[hb]))
theorem yo {A A' B B':List Nat}(h1:A.Perm A')(h2:B.Perm B'):(fx A B).Perm (fx A' B'):=
 (sH A λa _=>h2.map _).trans (List.Perm.flatMap_right _ h1)
theorem Cc {A B:List Nat}(hA:A.Pairwise (·< ·))(hB:B.Pairwise (·< ·)):(fx A B).Pairwise (λa b=>bu b a=false):=by
 unfold fx;rw[Sv];refine⟨λa _=>?_,hA.imp λ{a a'} hlt x hx y hy=>?_⟩
 ·rw[OY];refine hB.imp λ{b b'} hlt=>?_
  unfold bu bu;rw[if_pos rfl,if_neg (by omega)];simp only[decide_eq_false_iff_not];omega
 ·obtain⟨b,_,rfl⟩:=N5.mp hx;obtain⟨b',_,rfl⟩:=N5.mp hy;unfold bu;rw[if_neg (by omega)];simp only[decide_eq_false_iff_not];omega
theorem Dh(n s e:Nat):(rR n s e).Pairwise (·< ·):=Pn _ Pp
theorem yS {n:Nat}(h:0<n){a sa:Nat}(ha:a<n)(hs:sa<n)(b sb:Nat):bj bu (fx (cH n a b) (cH n sa sb))=fx (rR n a b) (rR n sa sb):=
 (kP ym (yo (qW h ha b) (qW h hs sb)).symm (Cc (Dh _ _ _) (Dh _ _ _))).symm
theorem sZ(A B:List Nat):(fx A B).length=A.length*B.length:=by
 unfold fx
 induction A with
 |nil=>simp
 |cons a A ih=>rw[Oj,Of,NK,ih,On,Tz,Vd,Wi]
theorem Fe(A B:List Nat): ∀k∈fx A B,k≠[]:=λk hk=>by
 unfold fx at hk;obtain⟨a,_,hk⟩:=Pv.mp hk;obtain⟨b,_,rfl⟩:=N5.mp hk;simp
theorem rY {n s e:Nat}(h:0<n)(hn:n<=900):gv [nI n,nI s,nI e]=some (.lst ((cH n s e).map nI)):=by
 apply aV (kd:=.n) (n:=3) (t:=gO);unfold gO;have m:=pE ((e:Int) -s) h;refine aT (c9 (ds:=(ND (((e:Int) -s) % n).toNat).map nI) (gM (al ((aB ((aB (x:=nI e) (y:=nI s) rfl rfl).trans (MS _ _)) (y:=nI n) rfl).trans (MF h)) rfl) (by omega)) (by simp;omega) ?_);refine(eJ (h:=nI) (o:=λ(i:Nat)=>nI ((s+i) % n)) _ λi hi=>⟨_,rfl,?_⟩).trans (by unfold cH;rw[N6];rfl);exact(aB ((aB (x:=nI s) (y:=nI i) rfl rfl).trans (MK _ _)) (y:=nI n) rfl).trans (LA h)
theorem tL {n:Nat}{o:List Nat}(ho:o.length=n)(h:0<n)(hn:n<=900)(a b:Nat):fJ [ay o,nI a,nI b]=some (.lst ((cH n a b).map nI)):=by
 apply aV (kd:=.n) (n:=3) (t:=ik);unfold ik;exact aT ((aN (ds:=[nI n,nI a,nI b]) (al (by rw[gx o _ _ rfl,ho]) rfl) rfl).trans (rY h hn))
theorem uW {n:Nat}{o:List Nat}(ho:o.length=n)(h:0<n)(hn:n<=900){a b:Nat}(ha:a<n)(hb:b<n):lT [ay o,nI a,nI b]=some (.lst ((cH n (o.getD a 0) (o.getD b 0)).map nI)):=by
 apply aV (kd:=.n) (n:=3) (t:=lD);unfold lD;exact aT ((aN (ds:=[nI n,nI (o.getD a 0),nI (o.getD b 0)]) (al (by rw[gx o _ _ rfl,ho]) (al ((aB (x:=ay o) (y:=nI a) rfl rfl).trans (gb (by omega))) (al ((aB (x:=ay o) (y:=nI b) rfl rfl).trans (gb (by omega))) rfl))) rfl).trans (rY h hn))
def yM(o:List Nat)(a b:Nat):List (List Int):=fx (rR o.length a b) (rR o.length (o.getD a 0) (o.getD b 0))
theorem Eg {n:Nat}{o:List Nat}(O:Ord n o)(h:0<n)(hn:n<=8){a b:Nat}(ha:a<n)(hb:b<n):jX [ay o,nI a,nI b]=some (.lst ((yM o a b).map de)):=by
 have ho:=O.len;apply aV (kd:=.n) (n:=4) (t:=j3);unfold j3;refine(aA (ρ':=[.v (ay o),.v (nI a),.v (nI b),.v (.lst ((cH n (o.getD a 0) (o.getD b 0)).map nI))]) ((bd ((aN (ds:=[ay o,nI a,nI b]) rfl rfl).trans (uW ho h (by omega) ha hb))).trans rfl)).trans ?_
 have hs:o.getD a 0<n:=by
  have:o.getD a 0=o[a]'(by omega):=by simp[OJ,ho,ha]
  rw[this];exact O.lt (SE _)
 have l1:=ng h a b;have l2:=ng h (o.getD a 0) (o.getD b 0);have hlen:(fx (cH n a b) (cH n (o.getD a 0) (o.getD b 0))).length<=49:=by
  rw[sZ];exact RA (show _<=7 by omega) (show _<=7 by omega)
 have c1:kl 2 (gK (ak (nF 3 fJ) (aa (ai 0) (aa (ai 1) (aa (ai 2) (aj)))))) (gN 4) (bT) (gK (ai 3)) (gN 5) (bT) (cz (aa (ai 4) (aa (ai 5) (aj)))) [.v (ay o),.v (nI a),.v (nI b),.v (.lst ((cH n (o.getD a 0) (o.getD b 0)).map nI))]=some (.lst ((fx (cH n a b) (cH n (o.getD a 0) (o.getD b 0))).map de)):=by
  refine kB (ds:=(cH n a b).map nI) (za ((aN (ds:=[ay o,nI a,nI b]) rfl rfl).trans (tL ho h (by omega) a b))) ?_ (by rw[NK];omega)
  refine(dz (h:=nI) (q:=λ_=>true) (o:=λ(x:Nat)=>(cH n (o.getD a 0) (o.getD b 0)).map λ(y:Nat)=>D.tup [nI x,nI y]) (cH n a b) λx hx=>⟨_,rfl,rfl,λ_=>?_⟩).trans ?_
  ·refine n5 (ds:=(cH n (o.getD a 0) (o.getD b 0)).map nI) rfl ?_
   refine(dz (h:=nI) (q:=λ_=>true) (o:=λ(y:Nat)=>[D.tup [nI x,nI y]]) (cH n (o.getD a 0) (o.getD b 0)) λy hy=>⟨_,rfl,rfl,λ_=>kJ (ck rfl (by simp))⟩).trans ?_
   rw[OW.mpr (λ_ _=>rfl)];congr 1
   induction (cH n (o.getD a 0) (o.getD b 0)) with
   |nil=>rfl
   |cons y l ih=>rw[Oj,ih];rfl
  ·rw[OW.mpr (λ_ _=>rfl)];unfold fx;rw[Qf];congr 2;funext x;rw[N6];rfl
 refine aT ?_
 rw[bD (al c1 rfl),Dj (by omega) (Fe _ _),yS h ha hs];unfold yM;rw[ho]
def br(o:List Nat)(a b:Nat):List Nat:=(o.set a (o.getD b 0)).set b (o.getD a 0)
theorem zp {n:Nat}{o:List Nat}(ho:o.length=n){a b:Nat}(ha:a<n)(hb:b<n):gC [ay o,nI a,nI b]=some (ay (br o a b)):=by
 apply aV (kd:=.s) (n:=4) (t:=dO);unfold dO;refine(aA (ρ':=[.v (ay o),.v (nI a),.v (nI b),.own (o.map nI)]) ((mw (ds:=o.map nI) rfl).trans rfl)).trans ?_
 refine(aA (ρ':=[.v (ay o),.v (nI a),.v (nI b),.own ((br o a b).map nI)]) (dS (fU (ck (al ((aB (x:=ay o) (y:=nI b) rfl rfl).trans (gb (by omega))) (al ((aB (x:=ay o) (y:=nI a) rfl rfl).trans (gb (by omega))) rfl)) (by simp))) ?_)).trans (aT rfl);simp only[gT,On,RP,cQ];rw[mX (bs:=o.map nI) (j:=a) rfl rfl (by simp;omega)];simp only[NN];rw[mX (bs:=(o.map nI).set a (nI (o.getD b 0))) (j:=b) rfl rfl (by simp;omega)];simp only[NN,gU,qc];rfl
theorem n8 {n:Nat}{o:List Nat}(ho:o.length=n){a b:Nat}(ha:a<n)(hb:b<n):sT [ay o,nI a,nI b]=some (ay (br o a b)):=by
 apply aV (kd:=.s) (n:=3) (t:=nY);unfold nY;exact aT ((aN (ds:=[ay o,nI a,nI b]) rfl rfl).trans (zp ho ha hb))
theorem M1(l:List Nat):lQ (l.map nI) (some 1) none=(l.drop 1).map nI:=by
 unfold lQ;rw[HT.sIx_none,show(some (1:Int))=some ((1:Nat):Int) from rfl,HT.sIx_nat];cases l with
 |nil=>rfl
 |cons x r=>
  rw[NK,show min 1 (x::r).length=1 by simp,NS,RF,Sj,RF,Sj];rw[P5 (by simp)]
def bJ(o:List Nat)(a b:Nat):Bool:= !((cH o.length a b).drop 1).any λx=>decide (o.getD x 0∈(cH o.length (o.getD a 0) (o.getD b 0)).drop 1)
theorem zF {n:Nat}{o:List Nat}(ho:o.length=n)(h:0<n)(hn:n<=900){a b:Nat}(ha:a<n)(hb:b<n):qr [ay o,nI a,nI b]=some (.bl (bJ o a b)):=by
 apply aV (kd:=.s) (n:=5) (t:=lN);unfold lN;have sl: ∀(l:List Nat) (f:FE) (ρ:aF),f ρ=some (.lst (l.map nI))->ft f (jQ (aD (.int 1))) nH ρ=some (.lst ((l.drop 1).map nI)):=λl f ρ e=>by
  unfold ft;rw[e];show some (D.lst (lQ (l.map nI) (some 1) none))=_;rw[M1]
 refine(aA (ρ':=[.v (ay o),.v (nI a),.v (nI b),.v (.lst (((cH n a b).drop 1).map nI)),.no]) ((bd (sl _ _ _ ((aN (ds:=[ay o,nI a,nI b]) rfl rfl).trans (tL ho h hn a b)))).trans rfl)).trans ?_
 refine(aA (ρ':=[.v (ay o),.v (nI a),.v (nI b),.v (.lst (((cH n a b).drop 1).map nI)),.v (.lst (((cH n (o.getD a 0) (o.getD b 0)).drop 1).map nI))]) ((bd (sl _ _ _ ((aN (ds:=[ay o,nI a,nI b]) rfl rfl).trans (uW ho h hn ha hb)))).trans rfl)).trans ?_
 refine aT (qi ?_);unfold bJ;rw[ho];refine lU (bY ?_);have l1:=ng h a b;rw[bD (al (c9 (ds:=((cH n a b).drop 1).map nI) (ys:=(((cH n a b).drop 1).map λx=>decide (o.getD x 0∈(cH n (o.getD a 0) (o.getD b 0)).drop 1)).map D.bl) rfl (by simp;omega) ?_) rfl),tN,UB]
 ·rfl
 ·rw[N6];refine eJ (h:=nI) _ λx hx=>⟨_,rfl,?_⟩
  have hx':x<n:=by
   have:=U1 hx;unfold cH at this;obtain⟨i,_,rfl⟩:=N5.mp this;exact P4 _ h
  refine(aB ((aB (x:=ay o) (y:=nI x) rfl rfl).trans (gb (by omega))) (y:=.lst (((cH n (o.getD a 0) (o.getD b 0)).drop 1).map nI)) rfl).trans ?_
  rw[Mi];rfl
theorem DV {n:Nat}(h:0<n){s e:Nat}(hs:s<n)(he:e<n)(ne:s≠e): ∃r,cH n s e=s::r:=by
 unfold cH;have m:=pE ((e:Int) -s) h;have pos:0<(((e:Int) -s) % n).toNat:=by
  have:((e:Int) -s) % n≠0:=λz=>by
   have:=Int.emod_emod_of_dvd;have d:=Uk z;obtain⟨q,hq⟩:=d;have:q=0:=by
    rcases Wj q 0 with hq0|hq0|hq0
    ·have:(n:Int)*q<=n*(-1):=Qm (by omega) (by omega);omega
    ·exact hq0
    ·have:(n:Int)*1<=n*q:=Qm (by omega) (by omega);omega
   subst this;omega
  omega
 obtain⟨k,hk⟩: ∃k,(((e:Int) -s) % n).toNat=k+1:=⟨_,(Nat.succ_pred_eq_of_pos pos).symm⟩
 rw[hk,Qx,NS,S7,Qg hs];exact⟨_,rfl⟩
theorem mK {n:Nat}(h:0<n){s e:Nat}(hs:s<n)(he:e<n)(ne:s≠e)(x:Nat):x∈(cH n s e).drop 1↔x<n/\bC n s e x=true/\x≠s:=by
 obtain⟨r,hr⟩:=DV h hs he ne;have nd:=sY h s e;have hm:=kx h hs e x;rw[hr] at nd hm⊢;rw[RF,Sj];obtain⟨n1,n2⟩:=PQ.mp nd;rw[Oc] at hm;constructor
 ·intro hx;obtain⟨h1,h2⟩:=hm.mp (.inr hx);exact⟨h1,h2,λz=>n1 (z▸hx)⟩
 ·rintro⟨h1,h2,h3⟩;exact(hm.mpr ⟨h1,h2⟩).resolve_left h3
theorem jT {α β:Type}(f:α->β): ∀l:List α,l.flatMap (λc=>[f c])=l.map f
 | []=>rfl
 |a::l=>by rw[Oj,jT f l];rfl
theorem Dd: ∀k:List Int,cE (k.map D.int)=0
 | []=>by simp[cE]
 |a::k=>by rw[NS];unfold cE;rw[Dd k];simp[fq]
theorem GN(k:List Int):fq (de k)=1:=by unfold de fq;rw[Dd]
theorem CZ: ∀ks:List (List Int),cE (ks.map de)<=1
 | []=>by simp[cE]
 |k::ks=>by
  rw[NS];unfold cE;have:=CZ ks;rw[GN];omega
theorem LH(ks:List (List Int)):fq (.lst (ks.map de))<=32:=by unfold fq;have:=CZ ks;omega
theorem Ef: ∀k l:List Int,c7 (k.map D.int) (l.map D.int)=decide (k=l)
 | [],[]=>by simp[c7]
 | [],_::_=>by simp[c7]
 |_::_,[]=>by simp[c7]
 |a::k,b::l=>by
  rw[NS,NS];unfold c7;rw[Ef k l,jb,Ov];simp
theorem Hh(k l:List Int):dq (de k) (de l)=decide (k=l):=by
 unfold de dq;exact Ef k l
theorem Ord.get {n:Nat}{o:List Nat}(O:Ord n o){i:Nat}(h:i<n):o.getD i 0<n:=by
 have ho:=O.len;have:o.getD i 0=o[i]'(by omega):=by simp[OJ,ho,h]
 rw[this];exact O.lt (SE _)
theorem Ord.inj {n:Nat}{o:List Nat}(O:Ord n o){i j:Nat}(hi:i<n)(hj:j<n)(e:o.getD i 0=o.getD j 0):i=j:=Iv O.nd (by rw[O.len];exact hi) (by rw[O.len];exact hj) e
theorem iC {n:Nat}{o:List Nat}(O:Ord n o){a b:Nat}(ha:a<n)(hb:b<n)(ne:a≠b):bJ o a b=true↔ ∀x,x<n-> ¬(bC n a b x=true/\x≠a/\bC n (o.getD a 0) (o.getD b 0) (o.getD x 0)=true/\o.getD x 0≠o.getD a 0):=by
 have h:0<n:=by omega
 have ne2:o.getD a 0≠o.getD b 0:=λz=>ne (O.inj ha hb z)
 unfold bJ;rw[O.len];simp only[O0,QU,decide_eq_true_eq];constructor
 ·intro H x hx ⟨h1,h2,h3,h4⟩;exact H x ((mK h ha hb ne x).mpr ⟨hx,h1,h2⟩) ((mK h (O.get ha) (O.get hb) ne2 _).mpr ⟨O.get hx,h3,h4⟩)
 ·intro H x hx hy;obtain⟨x1,x2,x3⟩:=(mK h ha hb ne x).mp hx;obtain⟨y1,y2,y3⟩:=(mK h (O.get ha) (O.get hb) ne2 _).mp hy;exact H x x1 ⟨x2,x3,y2,y3⟩
def oO(r x o:List Nat)(a b:Nat):Bool:= !(rR o.length a b).any λc=>decide (r.getD c 0∈rR o.length (o.getD a 0) (o.getD b 0))||decide (x.getD c 0∈rR o.length (o.getD a 0) (o.getD b 0))
theorem Ni(y p q:Nat):kR false (nI y) (.tup [nI p,nI q])=some (.bl (decide (y=p\/y=q))):=by
 unfold kR pY;dsimp only;rw[show cE [nI p,nI q]=0 from hZ [p,q],if_pos (by omega)];have:=Du [p,q] y;simp only[NS,Qu] at this;simp only[NX,if_false];rw[this];congr 2;simp
theorem EM {n:Nat}{r x o:List Nat}(O:Ord n o)(hr:r.length=n)(hx:x.length=n)(h:0<n)(hn:n<=8){a b:Nat}(ha:a<n)(hb:b<n):oT [c6 r x,ay o,nI a,nI b]=some (.bl (oO r x o a b)):=by
 have ho:=O.len;have pl: ∀s e,(rR n s e).length<=8:=λs e=>by unfold rR;exact OE (Pf _ _) (by simpa using hn)
 have clen:(yM o a b).length<=64:=by
  unfold yM;rw[sZ,ho];exact RA (pl a b) (pl (o.getD a 0) (o.getD b 0))
 apply aV (kd:=.s) (n:=7) (t:=j6);unfold j6;refine(aA (ρ':=[.v (c6 r x),.v (ay o),.v (nI a),.v (nI b),.v (ay r),.v (ay x),.no]) (dS (fU rfl) rfl)).trans ?_
 let P:List Nat×Nat->Bool:=λ_=>true
 have e0:(yM o a b).map de=((rR n a b).flatMap λc=>(rR n (o.getD a 0) (o.getD b 0)).map λy=>(c,y)).map λp:Nat×Nat=>D.tup [nI p.1,nI p.2]:=by
  unfold yM fx;rw[Qf,Qf,ho];congr 1;funext c;rw[N6,N6];rfl
 have cc:bM 2 (gK (ak (nF 3 jX) (aa (ai 1) (aa (ai 2) (aa (ai 3) (aj)))))) (gT 2 (cQ (gN 7) (cQ (gN 8) (gU)))) (bT) (aw (kR false) (ai 8) (cz (aa (aw bo (ai 4) (ai 7)) (aa (aw bo (ai 5) (ai 7)) (aj))))) [.v (c6 r x),.v (ay o),.v (nI a),.v (nI b),.v (ay r),.v (ay x),.no]
  =some (.lst ((((rR n a b).flatMap λc=>(rR n (o.getD a 0) (o.getD b 0)).map λy=>(c,y)).map λp:Nat×Nat=>decide (p.2=r.getD p.1 0\/p.2=x.getD p.1 0)).map D.bl)):=by
  refine c9 (ds:=(yM o a b).map de) (za ((aN (ds:=[ay o,nI a,nI b]) rfl rfl).trans (Eg O h hn ha hb))) (by rw[NK];omega) ?_
  rw[e0,N6];refine eJ (h:=λp:Nat×Nat=>D.tup [nI p.1,nI p.2]) _ λp hp=>⟨_,rfl,?_⟩
  obtain⟨c,hc,hp⟩:=Pv.mp hp;obtain⟨y,hy,rfl⟩:=N5.mp hp;have hc':c<n:=(plF_mem.mp hc).1;refine(aB (x:=nI y) (y:=.tup [nI (r.getD c 0),nI (x.getD c 0)]) rfl (ck (al ((aB (x:=ay r) (y:=nI c) rfl rfl).trans (gb (by omega))) (al ((aB (x:=ay x) (y:=nI c) rfl rfl).trans (gb (by omega))) rfl)) (by simp))).trans ?_
  exact Ni _ _ _
 refine(aA (ρ':=[.v (c6 r x),.v (ay o),.v (nI a),.v (nI b),.v (ay r),.v (ay x),.v (.lst ((((rR n a b).flatMap λc=>(rR n (o.getD a 0) (o.getD b 0)).map λy=>(c,y)).map λp:Nat×Nat=>decide (p.2=r.getD p.1 0\/p.2=x.getD p.1 0)).map D.bl))]) ((bd cc).trans rfl)).trans ?_
 refine aT (qi ?_);unfold oO;refine lU (bY ?_);rw[bD (al (d:=.lst _) rfl rfl),tN,UB,ho];congr 2;rw[Ov];simp only[Ul,Pv,N5,Function.comp,id,decide_eq_true_eq,PD];constructor
 ·rintro⟨p,⟨c,hc,y,hy,rfl⟩,h⟩;refine⟨c,hc,?_⟩;rcases h with h|h
  ·left;have h:y=r.getD c 0:=h;rw[<-h];exact hy
  ·right;have h:y=x.getD c 0:=h;rw[<-h];exact hy
 ·rintro⟨c,hc,h⟩;rcases h with h|h
  ·exact⟨(c,r.getD c 0),⟨c,hc,_,h,rfl⟩,.inl rfl⟩
  ·exact⟨(c,x.getD c 0),⟨c,hc,_,h,rfl⟩,.inr rfl⟩
def cg(r x o:List Nat)(a b:Nat):Bool:=bJ o a b&&oO r x o a b
theorem Be {n:Nat}{r x o:List Nat}(O:Ord n o)(hr:r.length=n)(hx:x.length=n)(h:0<n)(hn:n<=8){a b:Nat}(ha:a<n)(hb:b<n):qI [c6 r x,ay o,nI a,nI b]=some (.bl (cg r x o a b)):=by
 apply aV (kd:=.s) (n:=4) (t:=lB);unfold lB;refine aT (qi (ma (a:=bJ o a b) (bY ((aN (ds:=[ay o,nI a,nI b]) rfl rfl).trans (zF O.len h (by omega) ha hb))) (λz=>bY ((aN (ds:=[c6 r x,ay o,nI a,nI b]) rfl rfl).trans ?_)) λz=>by unfold cg;rw[z];rfl));rw[EM O hr hx h hn ha hb];unfold cg;rw[z];rfl
abbrev x8(o:List Nat)(a b:Nat):D:=.tup [nI a,nI b,ay (br o a b)]
def EU(P:Nat->Nat->Bool)(o:List Nat):List D:=(ND o.length).flatMap λa=>((ND o.length).filter λb=>decide (a≠b)&&P a b).map λb=>x8 o a b
theorem DY {n:Nat}{r x o:List Nat}(O:Ord n o)(hr:r.length=n)(hx:x.length=n)(h:0<n)(hn:n<=8):rq [c6 r x,ay o]=some (.lst (EU (cg r x o) o)):=by
 have ho:=O.len;apply aV (kd:=.n) (n:=3) (t:=im);unfold im;refine(aA (ρ':=[.v (c6 r x),.v (ay o),.v (.lst ((ND n).map nI))]) ((bd (Hs (n:=n) (by omega) _ _ (by rw[gx o _ _ rfl,ho]))).trans rfl)).trans ?_
 refine aT (kB (ds:=(ND n).map nI) rfl ?_ ?_)
 ·refine(dz (h:=nI) (q:=λ_=>true) (o:=λ(a:Nat)=>((ND n).filter λb=>decide (a≠b)&&cg r x o a b).map λb=>x8 o a b) (ND n) λa ha=>⟨_,rfl,rfl,λ_=>?_⟩).trans ?_
  ·rw[NF] at ha;refine n5 (ds:=(ND n).map nI) rfl ?_
   refine(dz (h:=nI) (q:=λb=>decide (a≠b)&&cg r x o a b) (o:=λ(b:Nat)=>[x8 o a b]) (ND n) λb hb=>⟨_,rfl,?_,λ_=>kJ (ck (al rfl (al rfl (al ((aN (ds:=[ay o,nI a,nI b]) rfl rfl).trans (n8 ho ha (by simpa using hb))) rfl))) (by simp))⟩).trans ?_
   ·rw[NF] at hb;refine ma (a:=decide (a≠b)) (bY ?_) (λz=>?_) (λz=>by rw[z];rfl)
    ·rw[aB (x:=nI a) (y:=nI b) rfl rfl,jW (by rw[fM];omega),iX];simp
    ·rw[z,OB];exact jd ((aN (ds:=[c6 r x,ay o,nI a,nI b]) rfl rfl).trans (Be O hr hx h hn ha hb))
   ·rw[jT]
  ·rw[OW.mpr (λ_ _=>rfl)];unfold EU;rw[ho]
 ·have key: ∀(l:List Nat) (m:Nat) (f:Nat->List D),(∀a,(f a).length<=m)->(l.flatMap f).length<=l.length*m:=by
   intro l m f hf
   induction l with
   |nil=>simp
   |cons a l ih=>rw[Oj,Of,On,Tz,Vd];have:=hf a;omega
  unfold EU;rw[ho];have k:=key (ND n) n (λa=>((ND n).filter λb=>decide (a≠b)&&cg r x o a b).map λb=>x8 o a b) (λa=>by rw[NK];exact OE (Pf _ _) (by simp));rw[Pc] at k;have:n*n<=8*8:=RA hn hn;omega
open PySem PySem.W PySem.Spec PyProof.Rows
section
variable {X:Cx}{c:Ct}{a b e:Expr}{f g:FE}{pos p p2 p3:Pos}{k:Kd}
def HS(K:NU):R2:=λx y H Q=> ∃l b xs zs,x=.ref l/\y=.ref b/\SqL K H l xs/\SqL K H b zs/\xs.length+zs.length<=Oi/\ ∀p,H p=none->Q (.ref p) (cm H p (.lst (xs++zs)))
theorem Fw:lv X (SN .Add) (HS X.K):=by
 intro ah s σ H x y v u Q I rx ry h;obtain⟨l,b,xs,zs,rfl,rfl,hL,hB,hz,q⟩:=h;cases rx;cases ry;obtain⟨its,r,⟨o,n,e,c1,d1,t1⟩,z1⟩:=I.list hL;obtain⟨its2,r2,⟨o2,n2,e2,c2,d2,t2⟩,z2⟩:=I.list hB;obtain⟨oc,od,ot,sl⟩:=o;obtain⟨oc2,od2,ot2,sl2⟩:=o2;dsimp only at c1 d1 t1 c2 d2 t2;subst c1 d1 t1 c2 d2 t2;have hl:=r.length;have hl2:=r2.length;refine concat_meets ⟨_,e,rfl⟩ ⟨_,e2,rfl⟩ noFill_list_add seq_list_add PySem.F.slot_list_add PySem.F.entry_list_add (PySem.F.args_list_add_2 _ _) (list_addW l b its.toArray its2.toArray n n2 none none sl sl2 (by rw[N9,N9];omega)) ⟨e,e2,?_⟩;have ea:its.toArray++its2.toArray=(its++its2).toArray:=by simp
 rw[ea];exact⟨.ref _,_,I.lnew (t':=s.toks) (r.append r2) (by rw[Of];omega),rfl,q _ I.fresh⟩
def gE:D->D->Option D
 | .lst xs,.lst ys=>if xs.length+ys.length<=Oi then some (.lst (xs++ys)) else none
 |_,_=>none
theorem Hg {K:NU}:oY K .n (HS K) gE:=by
 intro H hid v u x y d Q hf h r1 r2 q;unfold gE at h;split at h
 ·split at h
  ·rename_i hz
   cases h;obtain⟨a,xs,rfl,h1,h2⟩:=r1.lst;obtain⟨b,ys,rfl,h3,h4⟩:=r2.lst;exact⟨a,b,xs,ys,rfl,rfl,h1,h3,by rw[h2.length,h4.length];exact hz,λp hp=>q _ _ (bf hp _) (gw hp (Same.refl _) (h2.append h4))⟩
  ·cases h
 ·cases h
theorem my {k1 k2:Kd}(ha:DP X c k1 a f)(hb:DP X c k2 b g):DP X c .n (.BinOp a .Add b pos) (aw gE f g):=qB Fw Hg ha hb
end
section
variable {X:Cx}{c:Ct}{k:Kd}{e:Expr}{f:FE}{x:Str}{pos pos':Pos}
def Dn(F:D->D->Option D)(i:Nat)(f:FE):FS:=λρ=>match ai i ρ with
 |some x=>(match f ρ with
  |some y=>(match F x y with
   |some z=>.nx (ρ.set i (.v z))
   |none=>.no)
  |none=>.no)
 |none=>.no
theorem Bv(i:Nat)(hn:X.N.Nodup)(he:DP X c .s e f)(ho:Mc X .Add (M9 λi j=>i+j))(hi:X.N[i]? =some x:=by rfl)(hx:D4 X.env.scope x:=by first|exact P7 rfl|exact Pi rfl)(hf:X.fn x=true\/X.env.scope.names.lookup x=some .local:=by first|exact .inl rfl|exact .inr rfl|assumption):
 DS X c k (.AugAssign (.Name x pos') .Add e pos) (Dn bP i f):=λρ=>PS.imp (JW hn hi hx (uM λhid=>he hid ρ) ho hf) λD σ H hq_=>by
 obtain⟨hid,sr,q⟩:=hq_;unfold Dn at q;cases e1:ai i ρ with
 |none=>rw[e1] at q;exact q.elim
 |some d1=>
  rw[e1] at q;dsimp only at q;cases e2:f ρ with
  |none=>rw[e2] at q;exact q.elim
  |some d2=>
   rw[e2] at q;dsimp only at q;cases e3:bP d1 d2 with
   |none=>rw[e3] at q;exact q.elim
   |some d3=>
    rw[e3] at q;obtain⟨i1,j1,rfl,rfl,_,rfl⟩:=pr e3;unfold ai at e1;split at e1
    ·rename_i d' e'
     cases e1;obtain⟨x1,h1,h2⟩:=sr.sl i _ e';cases h2;refine⟨_,h1,hid,sr,_,e2,λv H' s' r=>?_⟩;cases r;exact⟨i1,j1,rfl,rfl,q _ H' hid ((sr.ext s').setV .int i) (aY s')⟩
    ·cases e1
end
section
variable {X:Cx}{c:Ct}{e:Expr}{es:List Expr}{k:Kd}{pos p:Pos}{x:Str}{ps:List Str}{j n:Nat}
def cX(f:FE):FA:=λρ=>(f ρ).bind λd=>match d with
 | .lst ds=>some ds
 | .tup ds=>some ds
 |_=>none
theorem cZ {tg iter:Expr}{f:FE}(h:DP X c .s iter f):DIp X c tg iter (cX f):=λhid ρ ah s σ H R I hq_=>by
 obtain⟨sr,ds,e1,q⟩:=hq_;unfold cX at e1;cases e2:f ρ with
 |none=>rw[e2] at e1;cases e1
 |some d=>
  rw[e2,NN] at e1;cases d with
  |lst xs=>cases e1;exact eW h hid ρ ah s σ H R I ⟨sr,ds,by unfold gK;rw[e2];rfl,q⟩
  |tup xs=>cases e1;exact AL h hid ρ ah s σ H R I ⟨sr,ds,by unfold wj;rw[e2];rfl,q⟩
  |_=>cases e1
end
theorem yU {es rest:List Expr}{x1}{pos:Pos}{env:Env}:N8 (.Tuple es x1 pos::rest) env=(false,eval (.Tuple es x1 pos) env)::N8 rest env:=by rfl
@[elab_as_elim] theorem ar0 {motive:List NG->Prop} (us:List NG) (hl:us.length=0) (h:motive []):motive us:=by
 cases us with
 |nil=>exact h
 |cons a r=>exact absurd hl (Nat.succ_ne_zero _)
@[elab_as_elim] theorem ar1 {motive:List NG->Prop} (us:List NG) (hl:us.length=1) (h: ∀a0,motive [a0]):motive us:=by
 cases us with
 |nil=>exact absurd hl (by decide)
 |cons a0 r=>exact ar0 (motive:=λr=>motive (a0::r)) r (Sk hl) (h a0)
@[elab_as_elim] theorem ar2 {motive:List NG->Prop} (us:List NG) (hl:us.length=2) (h: ∀a0 a1,motive [a0,a1]):motive us:=by
 cases us with
 |nil=>exact absurd hl (by decide)
 |cons a0 r=>exact ar1 (motive:=λr=>motive (a0::r)) r (Sk hl) (h a0)
@[elab_as_elim] theorem ar3 {motive:List NG->Prop} (us:List NG) (hl:us.length=3) (h: ∀a0 a1 a2,motive [a0,a1,a2]):motive us:=by
 cases us with
 |nil=>exact absurd hl (by decide)
 |cons a0 r=>exact ar2 (motive:=λr=>motive (a0::r)) r (Sk hl) (h a0)
@[elab_as_elim] theorem ar4 {motive:List NG->Prop} (us:List NG) (hl:us.length=4) (h: ∀a0 a1 a2 a3,motive [a0,a1,a2,a3]):motive us:=by
 cases us with
 |nil=>exact absurd hl (by decide)
 |cons a0 r=>exact ar3 (motive:=λr=>motive (a0::r)) r (Sk hl) (h a0)
@[elab_as_elim] theorem ar5 {motive:List NG->Prop} (us:List NG) (hl:us.length=5) (h: ∀a0 a1 a2 a3 a4,motive [a0,a1,a2,a3,a4]):motive us:=by
 cases us with
 |nil=>exact absurd hl (by decide)
 |cons a0 r=>exact ar4 (motive:=λr=>motive (a0::r)) r (Sk hl) (h a0)
@[elab_as_elim] theorem ar6 {motive:List NG->Prop} (us:List NG) (hl:us.length=6) (h: ∀a0 a1 a2 a3 a4 a5,motive [a0,a1,a2,a3,a4,a5]):motive us:=by
 cases us with
 |nil=>exact absurd hl (by decide)
 |cons a0 r=>exact ar5 (motive:=λr=>motive (a0::r)) r (Sk hl) (h a0)
@[irreducible] def QS (X:Cx) (c:Ct) (k:Kd) (st:Stmt) (t:FS):Prop:=DS X c k st t
@[irreducible] def QSs (X:Cx) (c:Ct) (k:Kd) (st:List Stmt) (t:FS):Prop:=ze X c k st t
section
variable {X:Cx}{c:Ct}{k:Kd}{e a b:Expr}{es:List Expr}{f g:FE}{fs:FA}{pos pos':Pos}{st:Stmt}{rest:List Stmt}{t u:FS}{x:Str}
theorem QS.of(h:DS X c k st t):QS X c k st t:=by unfold QS;exact h
theorem QS.ds(h:QS X c k st t):DS X c k st t:=by unfold QS at h;exact h
theorem QSs.to(h:QSs X c k rest t):ze X c k rest t:=by unfold QSs at h;exact h
theorem qv(h1:QS X c k st t)(h2:QSs X c k rest u):QSs X c k (st::rest) (aC t u):=by unfold QSs;exact ar h1.ds h2.to
theorem G2(h:QS X c k st t):QSs X c k [st] t:=by unfold QSs;exact az h.ds
end
end L2
namespace PySem
open Sem (wp)
end PySem
namespace L2
open PySem PySem.Spec PyProof.Rows
end L2
namespace PySem
section
variable {prog:OI}{w:OT}{A:OL}{E:NG->NH->Prop}{s:NH}
theorem sI {g g':Heap}{l:Addr}{us:Array NG}(t:g.IsList l us)(k: ∀o,g.get? l=some o->g'.get? l=some o):g'.IsList l us:=t.at k
theorem AE {it l:Addr}{us:Array NG}(ne:l≠it): ∀(n i:Nat) (s:NH) (Q:List NG->NH->Prop),s.heap.IsListIter it l i->s.heap.IsList l us->i+n<=us.size->
 (∀g,g.IsListIter it l (i+n)->Pd it s.heap g->Q ((us.toList.drop i).take n) {s with heap:=g})->N1 (model prog w) A (draw (.ref it) n) Q E s
 |0,i,s,Q,hi,_,_,q=>by
  show N1 _ _ (pure []) Q E s;exact NJ (by simpa using q s.heap hi (TX ..))
 |n+1,i,s,Q,hi,hl,le,q=>by
  have lt:i<us.size:=by omega
  show N1 _ _ (R8 (.ref it)>>=_) Q E s;refine NE (Ut hi hl (x:=us[i]) (by simp[lt]) λg hi' b=>NE (O5 (AE ne n (i+1) _ _ hi' (sI hl λo e=>b.extBut _ _ ne e) (by omega) λg2 hi2 b2=>NJ ?_)));have e:us.toList.drop i=us[i]::us.toList.drop (i+1):=by simp[PH,lt]
  have:=q g2 (by rw[show i+(n+1)=i+1+n by omega];exact hi2) (b.trans b2);rw[e,S5] at this;exact this
theorem l2_unpackL {l:Addr}{us:Array NG}{ts:List (Bool×(NG->Sem Unit))}{Q:Unit->NH->Prop}(hA:A.handled=none)(hl:s.heap.IsList l us)(hn:ts.length=us.size)(hs:ts.findIdx? (·.1)=none)
 (h: ∀g,TW s.heap.objs.size s.heap g->N1 (model prog w) A (X5 (ts.map (·.2)) us.toList) Q E {s with heap:=g}):N1 (model prog w) A (unpack (.ref l) ts) Q E s:=by
 have ne:l≠s.heap.objs.size:=by obtain⟨o,ho,_⟩:=hl;exact Oz (N0 ho)
 unfold unpack;rw[hn,hs];refine NE (O5 ?_);unfold unpackItems;refine NE ?_
 unfold notIterableAtAll;refine NE (SU hl.typeIs F.slot_list_iter.lookup (NJ ?_));simp only[NX,if_false];refine NE (O5 (TM hl ?_));refine NE (O5 (AE ne us.size 0 _ _ ⟨_,NZ _ rfl,rfl,rfl⟩ (hl.push _) (by omega) λg hi b=>?_));have all:List.take us.size (List.drop 0 us.toList)=us.toList:=by rw[Sj];exact P5 (by simp)
 rw[all,if_neg (by simp)];refine NE (O5 (UQ hA hi (sI (hl.push _) λo e=>b.extBut _ _ ne e) (by simp) λg2 b2=>?_));simp only[Option.isSome_none,NX,if_false];exact NJ (h g2 λc o hc e=>b2 c o hc (b.extBut c o hc (NM _ e)))
end
end PySem
namespace L2
open PySem PySem.Spec PyProof.Rows
section
variable {X:Cx}{c:Ct}{es:List Expr}{pos:Pos}
def MB(K:NU)(n:Nat)(t:Bi):TG:=λv σ H Q=> ∃a xs,v=.ref a/\SqL K H a xs/\xs.length=n/\t xs σ H Q
theorem Ia {k:Nat}{t:Bi}{n:Nat}(hc:X.calm=true)(h:PGs X es t)(hn:(Ps es X.env).length=n:=by rfl)(hst:(Ps es X.env).findIdx? (·.1)=none:=by rfl):PG X (.Tuple es k pos) (MB X.K n t):=by
 intro ah s σ H v u Q I r hw;obtain⟨a,xs,e1,hq,hl,hw⟩:=hw;subst e1;cases r;obtain⟨its,rv,ht,hz⟩:=I.list hq;rw[assign_Tuple];refine NE (Qi (PySem.l2_unpackL (I.ok.hd hc) ht.isList (by simp[hn,<-hl,rv.length]) hst λg hx=>?_));have I1:Inv X ah σ H {s with heap:=g}:=I.kept (t':=s.toks) λb o e=>hx b o (Oz (N0 e)) e
 exact h ah _ σ H xs _ Q I1 (by simpa using rv) hw
def gL(n:Nat)(gs:si):FG:=λd ρ=>match d with
 | .lst ds=>if ds.length=n then gs ds ρ else none
 |_=>none
theorem z8 {gs:si}{kk n:Nat}(hc:X.calm=true)(h:Lz X c es gs)(hn:(Ps es X.env).length=n:=by rfl)(hst:(Ps es X.env).findIdx? (·.1)=none:=by rfl):tx X c (.Tuple es kk pos) (gL n gs):=λhid ρ d=>
 PG.imp (Ia hc (u4 λds=>h hid ρ ds) hn hst) λv σ H Q hq_=>by
  obtain⟨sr,r,ρ',e,q⟩:=hq_;unfold gL at e;split at e
  ·split at e
   ·cases r with
    |lst h1 h2=>have h1:=SqL.of (K:=X.K) h1;exact⟨_,_,rfl,(di _ _).seq h1,by rw[h2.length];assumption,_,sr,h2,ρ',e,q⟩
   ·cases e
  ·cases e
end
section
variable {K:NU}{c:Ct}{hid:bN}{ρ:aF}{σ:St}{H:Hp}{a:Addr}
theorem SR.setD {b:Ob}(h:SR K c hid ρ σ H)(ho:ObOk K c hid H a b)(no: ∀i:Nat,Ow ρ[i]? ->σ[i]? ≠some (some (.ref a)))(i:Nat):
 SR K c hid (ρ.set i (.ob b)) (σ.set i (some (.ref a))) H:=by
 refine⟨h.tr,h.ht,h.h0,h.kp,h.t0,h.c0,h.m0,by simp[h.len],λj s q=>?_,λj l z n o1 o2 q1 q2=>?_⟩
 ·by_cases e:j=i
  ·subst e;have lt:j<ρ.length:=by
    have:=(NY.mp q).1;simpa using this
   rw[Og lt] at q;cases q;exact⟨a,Og (by rw[h.len];exact lt),ho⟩
  ·rw[N7 (OX e)] at q;have w:=h.sl j s q;have es:(σ.set i (some (V.ref a)))[j]? =σ[j]? :=N7 (OX e);cases s with
   |no=>trivial
   |v d=>obtain⟨x,h1,h2⟩:=w;exact⟨x,es.trans h1,h2⟩
   |own ds=>obtain⟨a,xs,h1,h2⟩:=w;exact⟨a,xs,es.trans h1,h2⟩
   |arg ds=>obtain⟨a,xs,h1,h2⟩:=w;exact⟨a,xs,es.trans h1,h2⟩
   |ob b=>obtain⟨a,h1,h2⟩:=w;exact⟨a,es.trans h1,h2⟩
 ·by_cases e1:j=i
  ·subst e1;have e2:l≠j:=λe=>n e.symm
   rw[N7 (OX e2)] at o2 q2
   by_cases lt:j<σ.length
   ·rw[Og lt] at q1;cases q1;exact no l o2 q2
   ·rw[O8 (by simpa using lt)] at q1;cases q1
  ·rw[N7 (OX e1)] at o1 q1
   by_cases e2:l=i
   ·subst e2
    by_cases lt:l<σ.length
    ·rw[Og lt] at q2;cases q2;exact no j o1 q1
    ·rw[O8 (by simpa using lt)] at q2;cases q2
   ·rw[N7 (OX e2)] at o2 q2;exact h.ap j l z n o1 o2 q1 q2
theorem ObOk.kind {b:Ob}(h:ObOk K c hid H a b)(o:s0 b): ∃u,H a=some u/\ ∀p v,u≠ .nst p v:=by
 cases b with
 |nst us=>obtain⟨_,_,e,_⟩:=h;exact⟨_,e,nofun⟩
 |dQ kvs=>exact o.elim
 |frs d=>exact o.elim
 |dR kvs=>exact o.elim
 |dRs l=>exact o.elim
 |exc x n=>exact o.elim
 |dK kvs=>obtain⟨_,_,e,_⟩:=h;exact⟨_,e,nofun⟩
 |dT kvs=>obtain⟨_,_,e,_⟩:=h;exact⟨_,e,nofun⟩
 |set ds=>obtain⟨_,_,e,_⟩:=h;exact⟨_,e,nofun⟩
 |old d=>exact o.elim
 |jnk=>obtain⟨_,_,e⟩:=h;exact⟨_,e,nofun⟩
 |tset ks=>obtain⟨_,_,e,_⟩:=h;exact⟨_,e,nofun⟩
 |dF kvs=>obtain⟨_,_,_,e,_⟩:=h;exact⟨_,e,nofun⟩
theorem SR.putO {x:Addr}{i:Nat}{b b':Ob}{o':HO}(h:SR K c hid ρ σ H)(hg:ρ[i]? =some (.ob b))(ow:s0 b)(ow':s0 b')(ha:σ[i]? =some (some (.ref a)))(hx:At H a x)(h2:hid x=true)(h3:c.H₀ x=none)
 (nt: ∀xs,o'≠ .tup xs) (new:ObOk K c hid (cm H x o') a b'):SR K c hid (ρ.set i (.ob b')) σ (cm H x o'):=by
 have lt:i<ρ.length:=(NY.mp hg).1;have vv:vw (cm H x o') hid=vw H hid:=fX h2;have tr': ∀b o,H b=some o-> ∃o2,(cm H x o') b=some o2:=λb o q=>by
  by_cases e:b=x
  ·subst e;exact⟨_,ba⟩
  ·exact⟨o,by rw[aR e];exact q⟩
 have owi:Ow ρ[i]? :=by rw[hg];exact ow
 obtain⟨a2,ha2,kb⟩:=h.sl i _ hg;rw[ha] at ha2;cases ha2;obtain⟨w,kw,kn⟩:=kb.kind ow;have ne: ∀(j:Nat) (s:Sl) (a' y:Addr) (w':HO),j≠i->ρ[j]? =some s->Ow (some s)->σ[j]? =some (some (.ref a'))->H a'=some w'->(∀p v,w'≠ .nst p v)->At H a' y->y≠x:=λj s a' y w' n e o q hw wn hy=>by
  have na:a'≠a:=λz=>by subst z;exact h.ap j i a' n (by rw[e];exact o) owi q ha
  rcases hx with rfl|⟨u,hu⟩
  ·exact hy.ne na kw kn
  ·intro z;subst z;rcases hy with rfl|⟨u',hu'⟩
   ·rw[hw] at hu;exact wn _ _ (OS hu)
   ·rw[hu] at hu';cases hu';exact na rfl
 have ows: ∀j:Nat,Ow (ρ.set i (.ob b'))[j]? ->Ow ρ[j]? :=λj o=>by
  by_cases e:j=i
  ·subst e;exact owi
  ·rw[N7 (OX e)] at o;exact o
 refine⟨λb hb=>let⟨o,q⟩:=h.tr b hb;tr' b o q,λb xs hb q=>by
  by_cases e:b=x
  ·subst e;rw[ba] at q;exact nt xs (OS q)
  ·rw[aR e] at q;exact h.ht b xs hb q,h.h0,λb o q m=>?_,λb o q=>let⟨o2,q2⟩:=h.t0 b o q;tr' b o2 q2,h.c0,h.m0,by simp[h.len],λj s e=>?_,λj l z n o1 o2=>h.ap j l z n (ows j o1) (ows l o2)⟩
 ·rw[aR (bG q h3)];exact h.kp b o q m
 ·by_cases ej:j=i
  ·subst ej;rw[Og lt] at e;cases e;exact⟨a,ha,new⟩
  ·rw[N7 (OX ej)] at e;have z:=h.sl j s e;cases s with
   |no=>trivial
   |v d=>obtain⟨x,h1,h2⟩:=z;exact⟨x,h1,by rw[vv];exact h2⟩
   |own ds=>obtain⟨a',xs,h1,h2,h3,h4,h5⟩:=z;exact⟨a',xs,h1,by rw[aR (ne j _ a' a' _ ej e trivial h1 h2 nofun (.inl rfl))];exact h2,h3,h4,by rw[vv];exact h5⟩
   |arg ds=>obtain⟨a',xs,h1,h2,h3,h4,h5⟩:=z;exact⟨a',xs,h1,by rw[aR (ne j _ a' a' _ ej e trivial h1 h2 nofun (.inl rfl))];exact h2,h3,h4,by rw[vv];exact h5⟩
   |ob b=>
    obtain⟨a',h1,h2⟩:=z
    exact⟨a',h1,h2.mono (λow y hy o q=>by
     obtain⟨w',hw,wn⟩:=h2.kind ow
     rw[aR (ne j _ a' y w' ej e ow h1 hw wn hy)];exact q) (by rw[vv];exact Same.refl _) λ_ _ _ q=>q⟩
end
open PySem PySem.W PySem.Spec PyProof.Rows
section
variable {prog:OI}{w:OT}{A:OL}{E:NG->NH->Prop}{s:NH}
theorem yX {T:String}{r d:Addr}{n:Nat}{P:Nat->NG->Prop}{OK:Heap->Prop}{R:List NG->NH->Prop}(src:KdlSrc prog w T r d n P OK)(calm:A.handled=none)(good:OK s.heap)(few:n<=Oi)
 (q: ∀(g:Heap) (tk:Nat) (us:Array NG),(∀b o,s.heap.get? b=some o->g.get? b=some o)->s.heap.objs.size<g.objs.size->ItemsOf P us n->R us.toList {s with heap:=g,toks:=tk}):N1 (model prog w) A (Zf (.ref r)) R E s:=by
 obtain⟨rl,dl⟩:=src.there _ good;unfold Zf;refine NE (Xz (Ri UW ?_));rw[QR UX _];show N1 _ A.in1 (Vl []>>=λz=>U4 (.builtin "list.__iadd__" ⟨[z,.ref r],[]⟩)) _ _ s;refine NE (Pw (NJ ⟨VM Se _,Ri Wf ?_⟩));rw[QR Se _];show N1 _ A.in1 (Tc (.ref s.heap.objs.size) (.ref r) (.ref s.heap.objs.size)) _ _ _;have last: ∀(g:Heap) (tk:Nat) (us:Array NG) (m:Nat),(∀b o,s.heap.get? b=some o->g.get? b=some o)->g.get? s.heap.objs.size=some {cls:=.type "list",dict:=none,data:=.seq us m,slots:= #[]}->ItemsOf P us n->
  N1 (model prog w) A (do
   match (<-load s.heap.objs.size).data with
    |Data.seq xs _=>pure xs.toList
    |_=>RW "internal:collect") R E {s with heap:=g,toks:=tk}:=λg tk us m kg hg hi=>NE (Xj hg (NJ (q g tk us kg (N0 hg) hi)))
 have ext:=kdl_extend (A:=A) (s:={s with heap:=s.heap.push {cls:=.type "list",data:=.seq ([]:List NG).toArray}})
  (R:=λz t=> ∃(g:Heap) (tk:Nat) (us:Array NG) (m:Nat),z=.ok (.ret (.ref s.heap.objs.size))/\t={s with heap:=g,toks:=tk}/\(∀b o,s.heap.get? b=some o->g.get? b=some o)/\g.get? s.heap.objs.size=some {cls:=.type "list",dict:=none,data:=.seq us m,slots:= #[]}/\ItemsOf P us n)
  src calm (src.keep _ _ good λb _ o e=>NM _ e) s.heap.objs.size (QQ rl) (QQ dl) (.ref s.heap.objs.size) 0 (NZ _ rfl)
  (λg tk us m kg hg hi=>⟨g,tk,us,m,rfl,rfl,λb o e=>kg b o (Oz (N0 e)) (NM _ e),hg,hi⟩) few
 refine OM ext (λz t h=>?_) λz t h=>by obtain⟨_,_,_,_,e,_⟩:=h;cases e
 cases z with
 |done f=>obtain⟨g,tk,us,m,e,rfl,kg,hg,hi⟩:=h;cases e;exact last g tk us m kg hg hi
 |again c=>exact⟨h.1,Rb h.2 λz t' hr=>by obtain⟨g,tk,us,m,rfl,rfl,kg,hg,hi⟩:=hr;exact last g tk us m kg hg hi⟩
end
mutual
def LF:D->Bool
 | .lst _=>false
 | .tup ds=>FK ds
 | .scr ds=>FK ds
 |_=>true
def FK:List D->Bool
 | []=>true
 |d::ds=>LF d&&FK ds
end
theorem Db {K:NU}{H:Hp}{g g':bN}(h: ∀t,g' t=false->g t=true->w6 (H t)=true){a:Addr}{xs:List V}(s:SqT K (vw H g') a xs):SqT K (vw H g) a xs:=by
 rcases s with(s|⟨o,s⟩)|s
 ·obtain⟨h1,h2⟩:=vw_some.mp s;refine .inl (.inl (vw_some.mpr ⟨?_,h2⟩));cases e:g a with
  |false=>rfl
  |true=>have:=h a h1 e;rw[h2] at this;cases this
 ·obtain⟨h1,h2⟩:=vw_some.mp s;refine .inl (.inr ⟨o,vw_some.mpr ⟨?_,h2⟩⟩);cases e:g a with
  |false=>rfl
  |true=>have:=h a h1 e;rw[h2] at this;cases this
 ·exact .inr s
theorem D9 {K:NU}{H:Hp}{g g':bN}(h: ∀t,g' t=false->g t=true->w6 (H t)=true){a:Addr}{xs:List V}(s:SqR K (vw H g') a xs):SqR K (vw H g) a xs:=by
 rcases s with⟨o,s⟩|s
 ·obtain⟨h1,h2⟩:=vw_some.mp s;refine .inl ⟨o,vw_some.mpr ⟨?_,h2⟩⟩;cases e:g a with
  |false=>rfl
  |true=>have:=h a h1 e;rw[h2] at this;cases this
 ·exact .inr s
mutual
theorem vj {K:NU}{H:Hp}{g g':bN}(h: ∀t,g' t=false->g t=true->w6 (H t)=true): ∀ {v:V} {d:D},Rep K (vw H g') v d->LF d=true->Rep K (vw H g) v d
 |_,_,.non,_=>.non
 |_,_,.bl,_=>.bl
 |_,_,.int,_=>.int
 |_,_,.str,_=>.str
 |_,_,.tup s r,l=>.tup (Db h s) (iy h r (by unfold LF at l;exact l))
 |_,_,.scr s r,l=>.scr (D9 h s) (iy h r (by unfold LF at l;exact l))
 |_,_,.lst s r,l=>by unfold LF at l;cases l
theorem iy {K:NU}{H:Hp}{g g':bN}(h: ∀t,g' t=false->g t=true->w6 (H t)=true): ∀ {v:List V} {d:List D},Reps K (vw H g') v d->FK d=true->Reps K (vw H g) v d
 |_,_,.nil,_=>.nil
 |_,_,.cons r rs,l=>by
  unfold FK at l;rw[NQ] at l;exact .cons (vj h r l.1) (iy h rs l.2)
end
def yZ:Sl->Sl->Option Sl
 | .no,_=>some .no
 | .v d,_=>some (.v d)
 | .own _,.own b=>if FK b=true then some (.own b) else none
 | .arg _,.arg b=>if FK b=true then some (.arg b) else none
 |_,_=>none
def kT:aF->aF->Option aF
 | [],_=>some []
 |s::r,s2::r2=>(yZ s s2).bind λs3=>(kT r r2).map (s3:: ·)
 |_::_,[]=>none
theorem vQ: ∀ {ρ ρ2 ρ3:aF},kT ρ ρ2=some ρ3->ρ3.length=ρ.length
 | [],_,_,h=>by cases h;rfl
 |s::r,[],_,h=>by cases h
 |s::r,s2::r2,ρ3,h=>by
  obtain⟨s3,h1,h2⟩:=Oa.mp (show(yZ s s2).bind (λs3=>(kT r r2).map (s3:: ·))=some ρ3 from h);obtain⟨r3,h3,h4⟩:=Pq.mp h2;subst h4;simp[vQ h3]
theorem pG: ∀ {ρ ρ2 ρ3:aF} {j:Nat} {s3:Sl},kT ρ ρ2=some ρ3->ρ3[j]? =some s3-> ∃s,ρ[j]? =some s/\(s3=s/\(s=.no\/ ∃d,s=.v d)\/ ∃s2,ρ2[j]? =some s2/\s3=s2/\((∃a b,s=.own a/\s2=.own b/\FK b=true)\/ ∃a b,s=.arg a/\s2=.arg b/\FK b=true))
 | [],_,_,_,_,h,e=>by cases h;simp at e
 |s::r,[],_,_,_,h,_=>by cases h
 |s::r,s2::r2,ρ3,j,x,h,e=>by
  obtain⟨s3,h1,h2⟩:=Oa.mp (show(yZ s s2).bind (λs3=>(kT r r2).map (s3:: ·))=some ρ3 from h);obtain⟨r3,h3,h4⟩:=Pq.mp h2;subst h4;cases j with
  |zero=>
   have e:s3=x:=by simpa using e
   subst e;refine⟨s,rfl,?_⟩;unfold yZ at h1;split at h1
   ·cases h1;exact .inl ⟨rfl,.inl rfl⟩
   ·cases h1;exact .inl ⟨rfl,.inr ⟨_,rfl⟩⟩
   ·split at h1
    ·cases h1;exact .inr ⟨_,rfl,rfl,.inl ⟨_,_,rfl,rfl, ‹_›⟩⟩
    ·cases h1
   ·split at h1
    ·cases h1;exact .inr ⟨_,rfl,rfl,.inr ⟨_,_,rfl,rfl, ‹_›⟩⟩
    ·cases h1
   ·cases h1
  |succ j=>
   obtain⟨s',z1,z2⟩:=pG (j:=j) h3 (by simpa using e);exact⟨s',by simpa using z1,by simpa using z2⟩
section
variable {K:NU}{c:Ct}{hid1 hid2 hidD:bN}{ρ ρ2 ρ3:aF}{σ σ2:St}{H H':Hp}
theorem qY(e:kT ρ ρ2=some ρ3){j:Nat}(o:Ow ρ3[j]?):Ow ρ[j]? /\Ow ρ2[j]? :=by
 cases z:ρ3[j]? with
 |none=>rw[z] at o;exact o.elim
 |some s3=>
  rw[z] at o;obtain⟨s,h1,h2⟩:=pG e z;rcases h2 with⟨rfl,rfl|⟨d,rfl⟩⟩|⟨s2,h3,rfl,⟨a,b,rfl,rfl,_⟩|⟨a,b,rfl,rfl,_⟩⟩
  ·exact o.elim
  ·exact o.elim
  ·exact⟨by rw[h1];trivial,by rw[h3];trivial⟩
  ·exact⟨by rw[h1];trivial,by rw[h3];trivial⟩
theorem SR.mix(h:SR K c hid1 ρ σ H)(w:Same (vw H hid1) (vw H' hidD))(h2:SR K c hid2 ρ2 σ2 H')(tr:Ka hidD H')(h0: ∀b,c.hid₀ b=true->hidD b=true)(le: ∀b,hid2 b=true->hidD b=true)
 (lo: ∀t,hid2 t=false->hidD t=true->w6 (H' t)=true) (e:kT ρ ρ2=some ρ3) (ow: ∀j:Nat,Ow ρ[j]? ->Ow ρ2[j]? ->σ2[j]? =σ[j]?):SR K c hidD ρ3 σ H':=by
 refine⟨tr.1,tr.2,h0,h2.kp,h2.t0,h.c0,h.m0,by rw[vQ e];exact h.len,λj s3 z=>?_,λi j a n o1 o2=>h.ap i j a n (qY e o1).1 (qY e o2).1⟩;obtain⟨s,h1,hh⟩:=pG e z;rcases hh with⟨rfl,rfl|⟨d,rfl⟩⟩|⟨s2,h3,rfl,⟨a,b,rfl,rfl,lf⟩|⟨a,b,rfl,rfl,lf⟩⟩
 ·trivial
 ·obtain⟨x,q1,q2⟩:=h.sl j _ h1;exact⟨x,q1,q2.mono w⟩
 ·obtain⟨a',xs,q1,q2,q3,q4,q5⟩:=h2.sl j _ h3;rw[ow j (by rw[h1];trivial) (by rw[h3];trivial)] at q1;exact⟨a',xs,q1,q2,le _ q3,q4,iy lo q5 lf⟩
 ·obtain⟨a',xs,q1,q2,q3,q4,q5⟩:=h2.sl j _ h3;rw[ow j (by rw[h1];trivial) (by rw[h3];trivial)] at q1;exact⟨a',xs,q1,q2,le _ q3,q4,iy lo q5 lf⟩
end
def dY(g:FG)(p:FT)(f:GE):List D->aF->Option (List D×aF)
 | [],ρ=>some ([],ρ)
 |d::r,ρ=>(g d ρ).bind λρ1=>(p ρ1).bind λb=>if b=true then(f ρ1).bind λq=>if LF q.1=true then(kT ρ q.2).bind λρ3=>(dY g p f r ρ3).map λz=>(q.1::z.1,z.2) else none
  else dY g p f r ρ
def eZ(m:Nat)(gi:GA)(g:FG)(p:FT)(f:GE):GE:=λρ=>(gi ρ).bind λz=>if z.1.length<=Oi then(dY g p f z.1 (z.2++NR m .no)).bind λy=>(kT z.2 y.2).map λρ'=>(.lst y.1,ρ') else none
theorem vT {m:Nat}{gi:GA}{g:FG}{p:FT}{f:GE}{ρ ρ':aF}{d:D}(h:eZ m gi g p f ρ=some (d,ρ')): ∃ds ρ0 ys ρF,gi ρ=some (ds,ρ0)/\ds.length<=Oi/\dY g p f ds (ρ0++NR m .no)=some (ys,ρF)/\kT ρ0 ρF=some ρ'/\d=.lst ys:=by
 obtain⟨⟨ds,ρ0⟩,h1,h2⟩:=Oa.mp (show(gi ρ).bind _=_ from h);split at h2
 ·obtain⟨⟨ys,ρF⟩,h3,h4⟩:=Oa.mp h2;obtain⟨ρ1,h5,h6⟩:=Pq.mp h4;cases h6;exact⟨ds,ρ0,ys,ρF,h1, ‹_›,h3,h5,rfl⟩
 ·cases h2
section
variable {X:Cx}{c:Ct}{elt tg iter:Expr}{ifs:List Expr}{scope:Qr}{pos spos py:Pos}{N':List Str}{m:Nat}{gi:GA}{g:FG}{p:FT}{f:GE}{y:Str}
structure CLE(Y:Cx)(K:NU)(c:Ct)(hid:bN)(ρF ρE:aF)(nN:Nat)(H:Hp)(D0:Addr)(fp:List Addr)(tn:Nat->Heap->Prop)(g:FG)(p:FT)(f:GE)(ds ys:List D)(σ3:St)(n i:Nat)(xs:List V)(ad:List D)(ρ:aF)(σ':St)(H':Hp)(s':NH):Prop where
 e:n=ds.length-i
 hi:i<=ds.length
 I:Inv Y [] σ' H' s'
 st:tn i s'.heap
 fr: ∀b∈fp,H' b=none
 sr:SR K c (bc hid D0) ρ σ' H'
 kp:Kept hid H H'
 ac:H' D0=some (.lst xs)
 rp:Reps K (vw H' (bc hid D0)) xs ad
 w:Same (vw H hid) (vw H' (bc hid D0))
 hl:xs.length<=i
 na: ∀i:Nat,Ow ρ[i]? ->σ'[i]? ≠some (some (.ref D0))
 ok:OwK ρF ρ σ3 σ'
 no: ∀(j:Nat) (s:Sl),nN<=j->ρ[j]? =some s->s=.no
 go: ∃rest,dY g p f (ds.drop i) ρ=some (rest,ρE)/\ad++rest=ys
theorem xv(hcalm:X.calm=true)(hT:jv X.N.length g)
 (hg: ∀C s₀ H₀ ex,tx (aE X N' scope C s₀ H₀ ex) c tg g) (hp: ∀C s₀ H₀ ex,u2 (aE X N' scope C s₀ H₀ ex) c ifs p) (he: ∀C s₀ H₀ ex,DE (aE X N' scope C s₀ H₀ ex) c .s elt f)
 {σ3:St} {H H3:Hp} {s3 s4:NH} {hid:bN} {ρF ρE:aF} {J:It} {it D0 C:Addr} {fp:List Addr} {tn:Nat->Heap->Prop} {ds ys:List D} {R:T3->NH->Prop}
 (hno: ∀(j:Nat) (s:Sl),X.N.length<=j->ρF[j]? =some s->s=.no)
 (I:Inv (aE X N' scope C s3 H3 fp) [] σ3 H3 s4) (sr:SR X.K c (bc hid D0) ρF σ3 H3) (h0: ∀b,c.hid₀ b=true->hid b=true) (nh:hid D0=false) (h00:c.H₀ D0=none) (na: ∀i:Nat,Ow ρF[i]? ->σ3[i]? ≠some (some (.ref D0))) (hacc:H3 D0=some (.lst [])) (sm:Kept hid H H3) (nD:H D0=none) (wv:Same (vw H hid) (vw H3 (bc hid D0))) (T:Turn X.prog X.w X.K tg J fp it tn) (st:tn 0 s4.heap) (hF: ∀b∈fp,H3 b=none)
 (io:ItOk X.K (vw H hid) J ds) (hz:ds.length<=Oi) (hc:dY g p f ds ρF=some (ys,ρE))
 (hR: ∀(s':NH) (σ':St) (H':Hp) (xs:List V),Inv (aE X N' scope C s3 H3 fp) [] σ' H' s'->SR X.K c (bc hid D0) ρE σ' H'->OwK ρF ρE σ3 σ'->Kept hid H H'->H' D0=some (.lst xs)->Reps X.K (vw H' (bc hid D0)) xs ys->Same (vw H hid) (vw H' (bc hid D0))->R (.ok .next) s'):
 Qp (model X.prog X.w) X.A (.compLoop (.ListComp elt [⟨tg,iter,ifs,0⟩] scope pos) 0 (.ref it) (.ref D0) (Ue scope (oe X.env.cells scope C) C X.env)) R s4:=by
 have stat: ∀ {ah:List (Addr×Obj)} {H':Hp},(∀q∈ah,q.1∉fp)->(∀b∈fp,H' b=none)-> ∀b∈fp,jB (aE X N' scope C s3 H3 fp) ah H' b:=λ{ah H'} hpn hn b hb=>
  ⟨hn b hb,(I.ok.exf b hb).1,I.ok.exfs b hb,.inl hb,(I.ok.exf b hb).2,λq hq e=>hpn q (by have hq':q∈([]:List (Addr×Obj))++ah:=hq;simpa using hq') (by rw[e];exact hb)⟩
 have no: ∀q∈([]:List (Addr×Obj)),q.1∉fp:=λq hq=>nomatch hq
 refine eV (λn s'=> ∃(i:Nat) (xs:List V) (ad:List D) (ρ:aF) (σ':St) (H':Hp),CLE (aE X N' scope C s3 H3 fp) X.K c hid ρF ρE X.N.length H D0 fp tn g p f ds ys σ3 n i xs ad ρ σ' H' s') ?_ ds.length
  ⟨0,[],[],ρF,σ3,H3,by simp,Pe _,I,st,hF,sr,sm,hacc,.nil,wv,Pe _,na,λi o=>⟨o,rfl⟩,hno,ys,by simpa using hc,rfl⟩
 rintro n s5 ⟨i,xs,ad,ρ,σ5,H5,rfl,hi,I5,st5,f5,sr5,sm5,ac5,rp5,w5,hl5,na5,ok5,hno5,rest,hc5,hy5⟩;have wH:Same (vw H hid) H5:=w5.trans (di _ _)
 by_cases hlt:i<ds.length
 ·have hd:ds[i]? =some ds[i]:=NL hlt;have e2:ds.drop i=ds[i]::ds.drop (i+1):=PH hlt;rw[e2] at hc5;unfold dY at hc5;obtain⟨go,yl⟩:=io.1 i ds[i] H5 hd wH;refine bU (T.item (aE X N' scope C s3 H3 fp) rfl rfl rfl hcalm i [] s5 σ5 H5 (λ_ _=>False) I5 (stat no f5) st5 go) λr s6 hq_=>?_
  obtain⟨u,hr,h6⟩:=hq_;subst hr;refine bU h6 λ_ s7 hq_=>?_
  obtain⟨x,H7,I7,r7,y7,st7,f7⟩:=hq_;obtain⟨s7',rp⟩:=yl x H7 y7;have rx:=rp (bc hid D0) sr5.tr w5;have I7':=I7.pinned (stat no f7) (T.obj _ _ st7);obtain⟨ρ1,e3,hc5⟩:=Oa.mp hc5;obtain⟨b,e4,hc5⟩:=Oa.mp hc5;obtain⟨tl1,tl2⟩:=hT _ _ _ e3;have fg: ∀ {σ':St} {H':Hp},SR X.K c (bc hid D0) ρ1 σ' H'->SR X.K c (bc hid D0) ρ σ' H':=λ{σ' H'} z=>z.forget tl1 λj s e=>by
   by_cases hj:j<X.N.length
   ·exact .inr ((tl2 j hj).trans e)
   ·exact .inl (hno5 j s (by omega) e)
  have owl: ∀j:Nat,Ow ρ[j]? ->Ow ρ1[j]? :=λj o=>by
   by_cases hj:j<X.N.length
   ·rw[tl2 j hj];exact o
   ·exfalso;cases z:ρ[j]? with
    |none=>rw[z] at o;exact o
    |some s=>rw[z] at o;rw[hno5 j s (by omega) z] at o;exact o
  have keepT: ∀ {σ':St} {H':Hp} {s':NH},Inv (aE X N' scope C s3 H3 fp) ([]++lJ fp s7.heap) σ' H' s'->tn (i+1) s'.heap/\ ∀b∈fp,H' b=none:=λ{σ' H' s'} J'=>by
   refine⟨T.keep _ _ _ st7 λb hb o e=>(J'.pin (b,o) (Op _ (Op _ (da hb e)))).1,λb hb=>?_⟩;obtain⟨o,e,_⟩:=T.obj _ _ st7 b hb;exact(J'.pin (b,o) (Op _ (Op _ (da hb e)))).2.1
  refine bU (hg C s3 H3 fp (bc hid D0) ρ ds[i] _ s7 σ5 H7 x u (λσ' H'=>H'=H7/\SR X.K c (bc hid D0) ρ1 σ' H7/\OwK ρ ρ1 σ5 σ') I7' r7 ⟨sr5.ext s7',rx,ρ1,e3,λσ' z o=>⟨rfl,z,o⟩⟩) λ_ s8 hq_=>?_
  obtain⟨σ8,H8,I8,e8,q8,o8⟩:=hq_;subst e8;have na8: ∀i:Nat,Ow ρ1[i]? ->σ8[i]? ≠some (some (.ref D0)):=λj o=>by
   rw[(o8 j o).2];exact na5 j (o8 j o).1
  refine bU (hp C s3 H3 fp (bc hid D0) ρ1 _ s8 σ8 H8 (λb' H'=>b'=b/\Same H8 H') I8 ⟨q8,b,e4,λH' s'=>⟨rfl,s'⟩⟩) λok s9 hq_=>?_
  obtain⟨H9,I9,e9,sm9⟩:=hq_;subst e9;have w9:Same (vw H5 (bc hid D0)) (vw H9 (bc hid D0)):=aY (s7'.trans sm9);have k9:Kept hid H H9:=sm5.trans (.of (s7'.trans sm9));have a9:H9 D0=some (.lst xs):=sm9 _ _ (s7' _ _ ac5);have ok8:OwK ρF ρ σ3 σ8:=λj o=>⟨(ok5 j o).1,by rw[(o8 j (owl j o)).2];exact(ok5 j o).2⟩
  cases ok with
  |false=>
   rw[if_neg (by decide)] at hc5;obtain⟨k1,k2⟩:=keepT I9;exact⟨ds.length- (i+1),by omega,i+1,xs,ad,ρ,σ8,H9,rfl,hlt,I9.unpinned,k1,k2,fg (q8.ext sm9),k9,a9,rp5.mono w9,w5.trans w9,by omega,λj o=>na8 j (owl j o),ok8,hno5,rest,hc5,hy5⟩
  |true=>
   rw[if_pos rfl] at hc5;obtain⟨⟨yv,ρ2⟩,e5,hc5⟩:=Oa.mp hc5;split at hc5
   ·rename_i lf
    obtain⟨ρ3,e6,hc5⟩:=Oa.mp hc5;obtain⟨⟨rest',ρx⟩,e7,hc5⟩:=Pq.mp hc5;cases hc5;show N1 (model X.prog X.w) X.A (eval elt _) _ _ s9;have srs:SR X.K c hid ρ1 σ8 H9:=(q8.ext sm9).show h0 na8 a9;refine bU (he C s3 H3 fp hid ρ1 _ s9 σ8 H9 (λv H'=>PostE X.K c hid .s ρ2 σ8 H9 H' v yv) I9 ⟨srs,yv,ρ2,e5,λv H' z=>z⟩) λv s10 hq_=>?_
    obtain⟨z,H10,I10,rz,kp10,sr10,rp10⟩:=hq_;have a10:H10 D0=some (.lst xs):=kp10 _ _ a9 nh;refine bU (eC (X:=aE X N' scope C s3 H3 fp) _ s10 σ8 H10 (.ref D0) [z] (.ref D0) [v] (λ_ H'=>H'=cm H10 D0 (.lst (xs++[z]))) I10 rfl (.cons rz .nil) ⟨D0,xs,z,rfl,rfl,a10,by omega,rfl⟩) λ_ s11 ⟨_,H11,I11,_,e11⟩=>?_
    subst e11;obtain⟨k1,k2⟩:=keepT I11;have lo: ∀t,hid t=false->bc hid D0 t=true->w6 (H10 t)=true:=λt h1 h2=>by
     unfold bc at h2;rw[h1] at h2;have:t=D0:=by simpa using h2
     subst this;rw[a10];rfl
    have kD:Kept (bc hid D0) H9 H10:=λb o q hb=>kp10 b o q (yV hb).1
    have w10:Same (vw H5 (bc hid D0)) (vw H10 (bc hid D0)):=w9.trans kD.vw;have vv:vw (cm H10 D0 (.lst (xs++[z]))) (bc hid D0)=vw H10 (bc hid D0):=fX fH
    have q10:SR X.K c (bc hid D0) ρ3 σ8 H10:=(fg (q8.ext sm9)).mix kD.vw sr10 ⟨λb hb=>by
     by_cases e:b=D0
     ·subst e;exact⟨_,a10⟩
     ·unfold bc at hb;exact sr10.tr b (by simpa [e] using hb),λb xs hb q=>by
     by_cases e:b=D0
     ·subst e;rw[a10] at q;cases q
     ·unfold bc at hb
      exact sr10.ht b xs (by simpa [e] using hb) q⟩ (λb q=>cK (h0 b q)) (λb q=>cK q) lo e6 λ_ _ _=>rfl
    have na10: ∀i:Nat,Ow ρ3[i]? ->σ8[i]? ≠some (some (.ref D0)):=λj o=>sr10.notOw nh j (qY e6 o).2
    refine⟨ds.length- (i+1),by omega,i+1,xs++[z],ad++[yv],ρ3,σ8,_,rfl,hlt,I11.unpinned,k1,k2,?_,λb o e hb=>?_,ba,?_,?_,by simp;omega,na10,λj o=>ok8 j (qY e6 o).1,λj s hj e=>?_,rest',e7,by rw[<-hy5];simp⟩
    ·exact q10.write fH h00 na10 a10
    ·rw[aR (bG e nD)];exact kp10 _ _ (k9 _ _ e hb) hb
    ·rw[vv];exact(rp5.mono w10).append (.cons (vj lo rp10 lf) .nil)
    ·rw[vv];exact w5.trans w10
    ·obtain⟨s',z1,z2⟩:=pG e6 e;have:=hno5 j s' hj z1;subst this;rcases z2 with⟨rfl,_⟩|⟨s2,_,_,⟨a,b,z,_⟩|⟨a,b,z,_⟩⟩
     ·rfl
     ·cases z
     ·cases z
   ·cases hc5
 ·have e:i=ds.length:=by omega
  subst e;rw[Qw (NT _)] at hc5;cases hc5;rw[O2] at hy5;subst hy5;refine bU (T.done (aE X N' scope C s3 H3 fp) rfl rfl rfl hcalm ds.length [] s5 σ5 H5 (λ_ _=>False) I5 (stat no f5) st5 (io.2 H5 wH)) λr s6 hq_=>?_
  obtain⟨hr,I6⟩:=hq_;subst hr;exact hR s6 σ5 H5 xs I6 sr5 ok5 sm5 ac5 rp5 w5
theorem vL(hcalm:X.calm=true)(hk:scope.kind=.function)(hs:xn scope X.env.scope=true)(hn:xE X.N N' scope=true)(hm:N'.length-X.N.length=m)(hT:jv X.N.length g)
 (hg: ∀C s₀ H₀ ex,tx (aE X N' scope C s₀ H₀ ex) c tg g) (hp: ∀C s₀ H₀ ex,u2 (aE X N' scope C s₀ H₀ ex) c ifs p) (he: ∀C s₀ H₀ ex,DE (aE X N' scope C s₀ H₀ ex) c .s elt f)
 {E:NG->NH->Prop} {ah:List (Addr×Obj)} {σ:St} {H:Hp} {s:NH} {hid:bN} {ρ ρE:aF} {J:It} {it:Addr} {fp:List Addr} {tn:Nat->Heap->Prop} {ds ys:List D} {RR:NG->Addr->T3->NH->Prop}
 (I:Inv X ah σ H s) (sr:SR X.K c hid ρ σ H) (T:Turn X.prog X.w X.K tg J fp it tn) (st:tn 0 s.heap) (hF: ∀b∈fp,jB X ah H b) (io:ItOk X.K (vw H hid) J ds) (hz:ds.length<=Oi) (hc:dY g p f ds (ρ++NR m .no)=some (ys,ρE))
 (hR: ∀(D C:Addr) (s':NH) (σ':St) (H':Hp) (xs:List V),s.heap.objs.size<=D->s.heap.objs.size<=C->D≠C->H D=none->Kept hid H H'->H' D=some (.lst xs)->Reps X.K (vw H' (bc hid D)) xs ys->SR X.K c (bc hid D) ρE σ' H'->OwK (ρ++NR m .no) ρE (σ++NR m none) σ'->Same (vw H hid) (vw H' (bc hid D))->(∃m,s'.heap.Ns C m)->H' C=none->s'.os=s.os->R7 s'.gens->HOk X.prog X.w H' s'.heap->Un (frs X.stack) fp H H' s.heap s'.heap->RR (.ref D) C (.ok .next) s'):
 N1 (model X.prog X.w) X.A (Vl []) (λacc s₃=>N1 (model X.prog X.w) X.A (Sc scope X.env.globals (tZ X.env.cells scope.names []) [] X.env.qual none .none (some X.env)) (λcenv s₄=>
  Qp (model X.prog X.w) X.A (.compStart (.ListComp elt [⟨tg,iter,ifs,0⟩] scope pos) 0 (.ref it) acc {cenv with scope:=Sb scope X.env}) (RR acc cenv.locals) s₄) E s₃) E s:=by
 refine Pw (ua λh₁ hns₁ kp1 oc₁=>?_);dsimp only at hns₁ kp1 oc₁⊢;generalize hH2:s.heap.push {cls:=.type "list",dict:=none,data:=.seq ([]:List NG).toArray}=H2 at hns₁ kp1 oc₁⊢;have hC:H2.objs.size=s.heap.objs.size+1:=by rw[<-hH2,P8]
 have hD:H s.heap.objs.size=none:=I.hok.fresh (NT _);have I2:Inv X ah σ (cm H s.heap.objs.size (.lst [])) {s with heap:=H2}:=by
  rw[<-hH2];exact I.laid (t':=s.toks) (λb o e=>NM _ e) (NT _) ⟨Pe _,[],0,.nil,NZ _ rfl⟩
 have fpLt: ∀b∈fp,b<s.heap.objs.size:=λb hb=>let⟨o,e,_⟩:=T.obj 0 s.heap st b hb;N0 e
 have hF2: ∀b∈fp,jB X ah (cm H s.heap.objs.size (.lst [])) b:=λb hb=>⟨by rw[aR (Oz (fpLt b hb))];exact(hF b hb).1,(hF b hb).2⟩
 have kp0: ∀b o,s.heap.get? b=some o->H2.get? b=some o:=λb o e=>by rw[<-hH2];exact NM _ e
 have IY:=qb (tk:=s.toks) (N':=N') (fp:=fp) I2 hF2 (λb hb=>let⟨o,e,_⟩:=T.obj 0 s.heap st b hb;⟨o,kp0 b o e⟩) hk hs hn hns₁ kp1 oc₁;rw[hm] at IY;dsimp only at IY;have sr0:SR X.K c (bc hid s.heap.objs.size) (ρ++NR m .no) (σ++NR m none) (cm H s.heap.objs.size (.lst [])):=(sr.hide (bf hD _) hD ba).more m;have hρ:ρ.length=X.N.length:=by rw[<-sr.len];exact I.len
 have nf:hid s.heap.objs.size=false:=sr.fresh hD;have st1:tn 0 h₁:=T.keep _ _ _ st λb hb o e=>kp1 b o (kp0 b o e)
 have na0: ∀i:Nat,Ow (ρ++NR m Sl.no)[i]? ->(σ++NR m none)[i]? ≠some (some (V.ref s.heap.objs.size)):=(sr.more m).notOw nf
 have wv:Same (vw H hid) (vw (cm H s.heap.objs.size (.lst [])) (bc hid s.heap.objs.size)):=by rw[uH hD];exact Same.refl _
 have loop: ∀s4:NH,s4={s with heap:=h₁,toks:=s.toks}->
  Qp (model X.prog X.w) X.A (.compLoop (.ListComp elt [⟨tg,iter,ifs,0⟩] scope pos) 0 (.ref it) (.ref s.heap.objs.size) (Ue scope (oe X.env.cells scope H2.objs.size) H2.objs.size X.env)) (RR (.ref s.heap.objs.size) H2.objs.size) s4:=by
  rintro s4 rfl;refine xv (H:=H) (hid:=hid) hcalm hT hg hp he (λj s' hj e=>?_) IY sr0 sr.h0 nf (sr.fresh0 hD) na0 ba (.of (bf hD _)) hD wv T st1 (λb hb=>(hF2 b hb).1) io hz hc ?_
  ·rw[Ox (by omega),OZ] at e;split at e
   ·cases e;rfl
   ·cases e
  intro s' σ' H' xs I' srE owk sm' hx' rp' w';have un1:Un (frs X.stack) fp H (cm H s.heap.objs.size (.lst [])) s.heap H2:=Un.laid (λb o e=>kp0 b o e) (NT _) hD;exact hR s.heap.objs.size H2.objs.size s' σ' H' xs (NT _) (by rw[hC];exact RZ _) (by rw[hC];exact Oz (O9 _)) hD sm' hx' rp' srE owk w' (let⟨m,hm,_⟩:=I'.loc;⟨m,hm⟩) I'.free I'.os I'.bare I'.hok (un1.trans I'.base)
 exact Sd (loop _ rfl) (T.self X.A 0 _ _ _ st1 (loop _ rfl))
theorem vk(i:Nat)(hcalm:X.calm=true)(hN:X.N.Nodup)(hT:jv X.N.length g)(hi:DI X c tg iter gi)
 (hg: ∀C s₀ H₀ ex,tx (aE X N' scope C s₀ H₀ ex) c tg g) (hp: ∀C s₀ H₀ ex,u2 (aE X N' scope C s₀ H₀ ex) c ifs p) (he: ∀C s₀ H₀ ex,DE (aE X N' scope C s₀ H₀ ex) c .s elt f)
 (hsw:Q1 (.ListComp elt [⟨tg,iter,ifs,0⟩] scope pos) (some (.Name y py)) spos.line X.env=pure true) (hyi:X.N[i]? =some y) (hy:X.env.scope.names.lookup y=some .local)
 (hk:scope.kind=.function) (hs:xn scope X.env.scope=true) (hn:xE X.N N' scope=true) (hm:N'.length-X.N.length=m) (hset: ∀x,O6 iter X.env x=pure x) (ρ:aF):
 PS X (.Assign [.Name y py] (.ListComp elt [⟨tg,iter,ifs,0⟩] scope pos) spos) (Gj (λσ H Q=> ∃hid,J7 X.K c hid .n (eZ m gi g p f) ρ σ H Q) (zw i)):=by
 intro ah s σ H E I hq;obtain⟨hid,sr,d,ρ',hd,q⟩:=hq;obtain⟨ds,ρ0,ys,ρF,e1,hz,hc,hx,rfl⟩:=vT hd;rw[UR _ _ _ _ hsw];refine NE (Qi (NE ?_));show N1 _ X.A (do let _ <-X9 (.ListComp elt [⟨tg,iter,ifs,0⟩] scope pos) scope X.env _ (Vl []) false (eval iter X.env) (some (Q2 (.Name y py) X.env))) _ _ s;refine NE (OM (QX (use:=some (Q2 (.Name y py) X.env)) (Q:=λ_ s'=>SP X ah E .next s') rfl hset (fc λx hx=>I.ok.has x (iD hs x hx)) hk (kQ hs) ?_) (λ_ s' hq=>NJ (NJ hq)) λ_ _ e=>e);refine bU (hi hid ρ ah s σ H (λJ H'=>Kept hid H H'/\SR X.K c hid ρ0 σ H'/\ItOk X.K (vw H' hid) J ds) I ⟨sr,ds,ρ0,e1,λJ H' k1 s1 io=>⟨k1,s1,io⟩⟩) λv s1 h1=>bU h1 λitv s2 h2=>?_
 obtain⟨it,fp,tn,J,H2,rfl,I2,T,st2,f2,kp,sr2,io⟩:=h2;refine vL (RR:=λacc C=>Xs (model X.prog X.w) X.A X.xe (some (Q2 (.Name y py) X.env)) (λ_ s'=>SP X ah E .next s') acc C) hcalm hk hs hn hm hT hg hp he I2 sr2 T st2 f2 io hz hc ?_
 intro D C s' σ' H' xs hDge hCge hDC hD sm' hx' rp srE owk w' ⟨mm,hns⟩ hC' hos hbare hok hun;have I3:Inv X ah σ H' s':=I2.call' (ch:=fp) hos hun hok hbare λb hb=>⟨(f2 b hb).2.2.2.1,(f2 b hb).2.1,(f2 b hb).2.2.2.2.1,(f2 b hb).2.2.2.2.2⟩
 have nf:hid D=false:=sr2.fresh hD;have hD0:H D=none:=by
  cases z:H D with
  |none=>rfl
  |some o=>rw[kp D o z nf] at hD;cases hD
 have srO:SR X.K c (bc hid D) ρ' σ H':=sr2.mix w' srE srE.trk (λb q=>cK (sr2.h0 b q)) (λb q=>q) (λt h1 h2=>by rw[h1] at h2;cases h2) hx λj o1 o2=>by
  have lt:j<ρ0.length:=by
   by_cases lt:j<ρ0.length
   ·exact lt
   ·rw[O8 (by omega)] at o1;exact o1.elim
  rw[(owk j o2).2,OA (by rw[sr2.len];exact lt)]
 have fin:=q (.ref D) H' ⟨kp.trans sm',D,xs,ys,rfl,rfl,hD0,hx',sr2.fresh0 hD,nf,srO,rp,λj o=>sr2.notOw nf j (qY hx o).1⟩;have ltC: ∀b o,s2.heap.get? b=some o->b≠C:=λb o e z=>by subst z;exact absurd (N0 e) (Ry.mpr hCge)
 have hLC:C≠X.env.locals:=λz=>by
  have:=I2.lt;rw[<-z] at this;exact absurd this (Ry.mpr hCge)
 show N1 _ X.A (Q2 (.Name y py) X.env (.ref D)) _ _ s';refine TH (nX (v:=.ref D) I3 hN hyi (.inl hy) rfl (λs'' I4 hb=>?_) (.inr hy));obtain⟨a,hsb,ha⟩:=hb;have hCa:C≠a:=by
  rcases ha with rfl|ha
  ·exact hLC
  ·obtain⟨w',o,ho,_⟩:=I2.cell y a ha;exact λz=>ltC a o ho z.symm
 refine⟨mm,hns.sameBut hsb hCa,λh3 hs3=>⟨_,H',?_,fin⟩⟩;refine I4.turned (t':=s''.toks) (it:=C) (λb o nb e=>(hs3.2 b nb).trans e) hC' hLC (.inr (OE I2.sz hCge)) (λx c' e z=>?_) (λq hq z=>?_)
 ·obtain⟨w',o,ho,_⟩:=I2.cell x c' e;exact ltC c' o ho z
 ·exact ltC q.1 q.2 (I2.pin q hq).1 z
theorem Ec(i:Nat){k:Kd}(hcalm:X.calm=true)(hN:X.N.Nodup)(hT:jv X.N.length g)(hi:DI X c tg iter gi)
 (hg: ∀C s₀ H₀ ex,tx (aE X N' scope C s₀ H₀ ex) c tg g) (hp: ∀C s₀ H₀ ex,u2 (aE X N' scope C s₀ H₀ ex) c ifs p) (he: ∀C s₀ H₀ ex,DE (aE X N' scope C s₀ H₀ ex) c .s elt f)
 (hsw:Q1 (.ListComp elt [⟨tg,iter,ifs,0⟩] scope pos) (some (.Name y py)) spos.line X.env=pure true:=by rfl) (hyi:X.N[i]? =some y:=by rfl) (hy:X.env.scope.names.lookup y=some .local:=by rfl)
 (hk:scope.kind=.function:=by rfl) (hs:xn scope X.env.scope=true:=by kernel_rfl) (hn:xE X.N N' scope=true:=by kernel_rfl) (hm:N'.length-X.N.length=m:=by rfl) (hset: ∀x,O6 iter X.env x=pure x:=by intro _;rfl):
 DS X c k (.Assign [.Name y py] (.ListComp elt [⟨tg,iter,ifs,0⟩] scope pos) spos) (Ds i (eZ m gi g p f)):=λρ=>PS.imp (vk i hcalm hN hT hi hg hp he hsw hyi hy hk hs hn hm hset ρ) λD σ H hq_=>by
 obtain⟨hid,sr,q⟩:=hq_;unfold Ds at q;cases e1:eZ m gi g p f ρ with
 |none=>rw[e1] at q;exact q.elim
 |some z=>
  rw[e1] at q;exact⟨hid,sr,z.1,z.2,e1,λv H' pe=>Ls pe q⟩
theorem wq(i:Nat){k:Kd}(hcalm:X.calm=true)(hN:X.N.Nodup)(hT:jv X.N.length g)(hi:DI X c tg iter gi)
 (hg: ∀C s₀ H₀ ex,tx (aE X N' scope C s₀ H₀ ex) c tg g) (hp: ∀C s₀ H₀ ex,u2 (aE X N' scope C s₀ H₀ ex) c ifs p) (he: ∀C s₀ H₀ ex,DE (aE X N' scope C s₀ H₀ ex) c .s elt f)
 (hsw:Q1 (.ListComp elt [⟨tg,iter,ifs,0⟩] scope pos) (some (.Name y py)) spos.line X.env=pure true:=by rfl) (hyi:X.N[i]? =some y:=by rfl) (hy:X.env.scope.names.lookup y=some .local:=by rfl)
 (hk:scope.kind=.function:=by rfl) (hs:xn scope X.env.scope=true:=by kernel_rfl) (hn:xE X.N N' scope=true:=by kernel_rfl) (hm:N'.length-X.N.length=m:=by rfl) (hset: ∀x,O6 iter X.env x=pure x:=by intro _;rfl):
 DS X c k (.Assign [.Name y py] (.ListComp elt [⟨tg,iter,ifs,0⟩] scope pos) spos) (ki i (eZ m gi g p f)):=λρ=>PS.imp (vk i hcalm hN hT hi hg hp he hsw hyi hy hk hs hn hm hset ρ) λD σ H hq_=>by
 obtain⟨hid,sr,q⟩:=hq_;unfold ki at q;cases e1:eZ m gi g p f ρ with
 |none=>rw[e1] at q;exact q.elim
 |some z=>
  rw[e1] at q;refine⟨hid,sr,z.1,z.2,e1,λv H' pe=>?_⟩;obtain⟨kp,s',r⟩:=PostE.toS sr.h0 pe;exact q _ H' hid (s'.setV r i) kp.vw
end
theorem Cj(its:List NG):WC its.toArray none none (some (-1))=its.reverse.toArray:=by
 unfold WC;rw[W.krv_bounds];dsimp only;rw[W.krv_sliceRange,W.krv_range];rw[List.filterMap_reverse,N9];have:List.filterMap (λx=>its.toArray[x]?) (ND its.length)=its:=by
  have:=UE its;simpa using this
 rw[this]
theorem Ek {xs:List V}{us:List NG}(r:Vals xs us):Vals xs.reverse us.reverse:=by
 induction r with
 |nil=>exact .nil
 |cons r t ih=>rw[TR,TR];exact Vals.append ih (.cons r .nil)
section
variable {X:Cx}{c:Ct}{e st:Expr}{k:Kd}{te:TE}{ts:TO}{f g:FE}{pos p2:Pos}{lo hi:Option Expr}{l u:FO}
theorem KS {α:Type}{o:Option Expr}{t:α->TO}(h: ∀z,PO X o (t z)):PO X o (λσ H Q=> ∃z,t z σ H Q):=λah s σ H Q I ⟨z,q⟩=>h z ah s σ H Q I q
theorem By(he:PE X e te)(hst:PO X (some st) ts)(hno: ∀(v:NG) (sl:Addr),U5 (.Slice none none (some st) p2) false v (.ref sl)=YZ [v,.ref sl] (W9 v (.ref sl)):=by intro _ _;with_unfolding_all rfl):
 PE X (.Subscript e (.Slice none none (some st) p2) pos) (λσ H Q=>te σ H λx H1=>ts σ H1 λo H2=>o=some (-1)/\ ∃a xs,x=.ref a/\SqL X.K H2 a xs/\ ∀p,H2 p=none->Q (.ref p) (cm H2 p (.lst xs.reverse))):=by
 intro ah s σ H Q I h;refine Xp (bU (he ah s σ H _ I h) λv s1 hq_=>?_);obtain⟨x,H1,I1,r1,q1⟩:=hq_;refine wpAny_Slice ?_
 rw[VG];refine NJ (NJ (bU (hst ah s1 σ H1 _ I1 q1) λvs s2 hq_=>?_));obtain⟨o,H2,I2,po,e0,a,xs,e1,hx,q⟩:=hq_;subst e0 e1;cases r1;have I4:Inv X ah σ H2 {s2 with heap:=s2.heap.push {cls:=.type "slice",data:=.fields #[.none,.none,vs]}}:=I2.kept (t':=s2.toks) λb ob q=>NM _ q
 obtain⟨its,r,ht,hz⟩:=I4.list hx;have hlen:=r.length;show N1 (model X.prog X.w) X.A (VH e (.Slice none none (some st) p2) (.ref a) (.ref s2.heap.objs.size)) (EP X ah σ Q) X.xe {s2 with heap:=s2.heap.push {cls:=.type "slice",data:=.fields #[.none,.none,vs]}};refine Z8 (ops:=[.ref a,.ref s2.heap.objs.size]) ht.isList.typeIs TN.lookup ?_ (hno _ _)
 refine T5 ht.isList (VV ..) .none .none po (by simp) ?_ (by rw[N9]<;>omega)
 rw[Cj];refine⟨.ref _,_,I4.laid (t':=s2.toks) (o:=.lst xs.reverse) (λb ob q=>NM _ q) (NT _) ?_,rfl,q _ (I4.hok.fresh (NT _))⟩;exact⟨by rw[List.length_reverse];exact hz,_,0,Ek r,NZ _ rfl⟩
def rH(f:FE)(o:FO):FE:=λρ=>(f ρ).bind λd=>match d with
 | .lst ds=>(o ρ).bind λz=>if z=some (-1) then some (.lst ds.reverse) else none
 |_=>none
theorem yb {o:FO}(he:DP X c k e f)(hs:DO X c (some st) o)(hno: ∀(v:NG) (sl:Addr),U5 (.Slice none none (some st) p2) false v (.ref sl)=YZ [v,.ref sl] (W9 v (.ref sl)):=by intro _ _;with_unfolding_all rfl):
 DP X c .n (.Subscript e (.Slice none none (some st) p2) pos) (rH f o):=λhid ρ=>PE.imp (By (he hid ρ) (hs hid ρ) hno) λσ H Q hq_=>by
 obtain⟨sr,d,hd,q⟩:=hq_;unfold rH at hd;obtain⟨z,e1,hd⟩:=Oa.mp hd;split at hd
 ·obtain⟨w,e2,hd⟩:=Oa.mp hd;split at hd
  ·rename_i ew
   subst ew;cases hd;refine⟨sr,_,e1,λv H1 s1 r1=>⟨sr.ext s1,_,e2,λH2 s2=>⟨rfl,?_⟩⟩⟩;obtain⟨a,xs,rfl,h1,h2⟩:=((RK.b k r1 λa n=>sr.fresh n).ext s2).lst;exact⟨a,xs,rfl,h1,λp hp=>q _ _ ((s1.trans s2).trans (bf hp _)) (gw hp (s1.trans s2) h2.reverse)⟩
  ·cases hd
 ·cases hd
def CO(f:GE)(l u:FO):GE:=λρ=>(f ρ).bind λz=>match z.1 with
 | .lst ds=>(l z.2).bind λlo=>(u z.2).map λhi=>(.lst (lQ ds lo hi),z.2)
 |_=>none
theorem JK {f:GE}(he:DE X c .s e f)(hl:DO X c lo l)(hu:DO X c hi u):DE X c .n (.Subscript e (.Slice lo hi none p2) pos) (CO f l u):=λhid ρ=>
 PE.imp (u7 zN (he hid ρ) (KS λρ'=>hl hid ρ') (KS λρ'=>hu hid ρ')) λσ H Q hq_=>by
  obtain⟨sr,d,ρ',hd,q⟩:=hq_;unfold CO at hd;obtain⟨⟨z,ρ1⟩,e1,hd⟩:=Oa.mp hd;dsimp only at hd;split at hd
  ·obtain⟨o1,e2,hd⟩:=Oa.mp hd;obtain⟨o2,e3,hd⟩:=Pq.mp hd;cases hd;refine⟨sr,_,_,e1,λv H1 ⟨k1,s1,r1⟩=>⟨_,s1,o1,e2,λH2 s2=>⟨_,s1.ext s2,o2,e3,λH3 s3=>?_⟩⟩⟩;obtain⟨a,xs,rfl,h1,h2⟩:=(Rep1.ext (.inl r1) (s2.trans s3)).lst;have sr3:=s1.ext (s2.trans s3);exact⟨a,xs,rfl,h1,λp hp=>q _ _ (PostE.left k1 (s1.post ((s2.trans s3).trans (bf hp _)) (gw hp (s2.trans s3) (wy h2 o1 o2)) (by decide)))⟩
  ·cases hd
end
def Ck:D->Option (List Int)
 | .tup ds=>fR ds
 |_=>none
theorem nP {d:D}{ns:List Int}(h:Ck d=some ns):d=.tup (ns.map D.int):=by
 unfold Ck at h;split at h
 ·rw[iL h]
 ·cases h
theorem qu {K:NU}{F:Hp}: ∀ {xs:List V} {ns:List Int},Reps K F xs (ns.map D.int)->xs=(ns.map TF).map kV
 |_,[],h=>by cases h;rfl
 |_,n::ns,h=>by
  cases h with
  |cons r rs=>cases r;rw[qu rs];rfl
section
variable {X:Cx}{c:Ct}{k k1 k2:Kd}{e f ev:Expr}{es:List Expr}{fe ff fk fv:FE}{fs:FA}{pos pos' py apos cpos p:Pos}{x y:Str}{x1:_}
def iK(ns:List Int):List kZ:=ns.map TF
theorem yF {hid:bN}{H':Hp}{z:V}{ns:List Int}(h:Rep1 X.K H' (vw H' hid) z (.tup (ns.map D.int))): ∃b,z=.ref b/\SqT X.K H' b ((iK ns).map kV):=by
 obtain⟨b,xs,rfl,_,h2,h3⟩:=h.tup;refine⟨b,rfl,?_⟩;rw[<-show xs=(iK ns).map kV from qu h3];exact h2
end
section
variable {prog:OI}{w:OT}{A:OL}{E:NG->NH->Prop}{s:NH}{d it:Addr}{es:Array DictEntry}{ep i:Nat}
theorem xq {T:String}{r:Addr}{us:List NG}{P:Nat->NG->Prop}{OK:Heap->Prop}{Q:NG->NH->Prop}{G:List Nat->Prop}(src:KdlSrc prog w T r d us.length P OK)(hP: ∀i v,i<us.length->P i v->us[i]? =some v)(calm:A.handled=none)(good:OK s.heap)(hz:us.length<64)
 (few:us.length<2->G (ND us.length))
 (many:2<=us.length-> ∀(g:Heap) (tk:Nat),(∀c o,s.heap.get? c=some o->g.get? c=some o)->N1 (model prog w) A.in1.in1 (keyKind' us.toArray) (λκ t=>t={s with heap:=g,toks:=tk}/\
   (Wd us.length).kasWp (We prog w A.in1.in1 κ us) (λp t'=>t'=t/\G p.toList) t) (λ_ _=>False) {s with heap:=g,toks:=tk})
 (fin: ∀(g:Heap) (tk a e:Nat) (ix:List Nat),(∀c o,s.heap.get? c=some o->g.get? c=some o)->s.heap.objs.size<=a->G ix->g.get? a=some (Ro "list" (PR (ix.map λi=>us.getD i OP)) e)->Q (.ref a) {s with heap:=g,toks:=tk}):
 N1 (model prog w) A (call (.builtin "sorted") [.ref r]) Q E s:=by
 refine Tv kind_sorted plain_sorted entry_sorted (args_sorted1 _) ?_
 unfold Rc.«sorted»;refine NE (m:=checkCount "sorted" 1 1 _) (NJ (NE (yX (A:=A.in1) src calm good (by rw[PB];omega) λg tk acc kg sg0 hacc=>?_)));have hus:acc.toList=us:=Sf λi=>by
  by_cases hi:i<us.length
  ·have h1:i<acc.size:=by rw[hacc.1];exact hi
   have e3:acc[i]? =some acc[i]:=Ol h1;rw[Ot,e3,hP i _ hi (hacc.2 i _ e3)]
  ·have h1: ¬i<acc.toList.length:=by rw[N4,hacc.1];exact hi
   rw[O8 (by omega),O8 (by omega)]
 rw[hus];have sg:s.heap.objs.size<=g.objs.size:=Q9 sg0;refine NE (VL ?_ (by rw[PB];omega));have hL:(g.push (Ro "list" us.toArray 0)).get? g.objs.size=some (Ro "list" us.toArray 0):=NZ _ rfl;show N1 _ _ _ _ _ {s with heap:=g.push (Ro "list" us.toArray 0),toks:=tk};have end_: ∀ix:List Nat,G ix->Q (.ref g.objs.size) {s with heap:=SC (g.push (Ro "list" us.toArray 0)) g.objs.size us (PR (ix.map λi=>us.getD i OP)),toks:=tk}:=λix hG=>by
  obtain⟨e,he⟩:=Ye (out:=PR (ix.map λi=>us.getD i OP)) hL;refine fin _ tk g.objs.size e ix (λc u hu=>?_) sg hG he;have lt:=N0 (kg c u hu);rw[XA (Oz lt) (by rw[size_push'];exact Wg lt)];exact NM _ (kg c u hu)
 refine NE (O5 (Pa XB ⟨_,hL,rfl⟩ WZ (qL (P:=λf t=> ∃v,f=.done (.ret v)/\N1 (model prog w) A.in1 (pure (XC (.ret (PM g.objs.size)))) (λf t=> ∃v,f=.done (.ret v)/\Q v t) E t) hL (by omega) (λh=>?_) (λh g' kg'=>?_)) (XD _)))
 ·have e:=end_ (ND us.length) (few h)
  rw[show(ND us.length).map (λi=>us.getD i OP)=us from Sf λi=>by
   by_cases hi:i<us.length
   ·simp[hi]
   ·simp[hi]] at e
  exact⟨_,rfl,NJ ⟨_,rfl,e⟩⟩
 ·refine OM (many h g' tk λc u hu=>kg' c u (Oz (N0 (kg c u hu))) (NM _ (kg c u hu))) (λκ t ⟨et,ht⟩=>⟨et,?_⟩) λ_ _ x=>x
  rw[kat_ask_eq rfl] at ht⊢;exact kas_wp_mono ht λp t' ⟨e1,hG⟩=>⟨e1,_,rfl,NJ ⟨_,rfl,end_ _ hG⟩⟩
end
theorem HI: ∀ {ns:List Int} {us:List NG},Vals (ns.map V.int) us->ui us ns
 | [],_,h=>by cases h;exact .nil
 |_::_,_,h=>by cases h with|cons h1 h2=>exact .cons h1 (HI h2)
theorem Au {α:Type}(next:Nat->Nat): ∀(fuel k:Nat) (left:List α) (out:Array α),fuel=left.length->(Zo next fuel k left out).toList.Perm (out.toList++left)
 |0,k,left,out,h=>by
  obtain rfl:left=[]:=List.eq_nil_of_length_eq_zero h.symm;rw[O2];exact Sm _
 |fuel+1,k,left,out,h=>by
  have lt:next k % left.length<left.length:=P4 _ (by omega)
  have e:left[next k % left.length]? =some left[next k % left.length]:=NL lt;unfold Zo;rw[e];dsimp only;refine(Au next fuel (k+1) _ _ (by rw[PX,if_pos lt];omega)).trans ?_
  rw[Array.toList_push,Pj];refine Rr _ ?_
  have e2:left=left.take (next k % left.length)++left[next k % left.length]::left.drop (next k % left.length+1):=by
   conv=>lhs;rw[<-Rm (next k % left.length) left,PH lt]
  rw[Sq]
  conv=>rhs;rw[e2]
  exact(Ws (l₁:=left.take (next k % left.length))).symm
theorem yW {α:Type}(next:Nat->Nat)(xs:Array α):(YH next xs).toList.Perm xs.toList:=by
 have:=Au next xs.size 0 xs.toList #[] (by simp)
 unfold YH;simpa using this
theorem Cv {xs:Array Nat}(r:Ris xs){j p:Nat}(b:Bel xs j p):Os xs j=p:=by
 have b':=KZ r j;rcases QO (Os xs j) p with c|c|c
 ·have lt:Os xs j<xs.size:=by have:=b.le;omega
  have e:xs[Os xs j]? =some xs[Os xs j]:=Ol lt;have h1:=b.lo _ _ c e;have h2:=b'.hi _ _ (NT _) e;omega
 ·exact c
 ·have lt:p<xs.size:=by have:=b'.le;omega
  have e:xs[p]? =some xs[p]:=Ol lt;have h1:=b'.lo _ _ c e;have h2:=b.hi _ _ (NT _) e;omega
theorem Ca {xs:Array Nat}(r:Ris xs){i:Nat}(hi:i<=xs.size):Os xs (if i=0 then 0 else xs.getD (i-1) 0+1)=i:=by
 refine Cv r ⟨hi,λx a hx ha=>?_,λx a hx ha=>?_⟩
 ·rw[if_neg (by omega)];have lt:i-1<xs.size:=by omega
  have e:xs[i-1]? =some xs[i-1]:=Ol lt;have eg:xs.getD (i-1) 0=xs[i-1]:=by simp[Q7,lt]
  rw[eg]
  by_cases c:x=i-1
  ·subst c;rw[e] at ha;cases ha;omega
  ·have:=r.lt (show x<i-1 by omega) ha e;omega
 ·by_cases c:i=0
  ·rw[if_pos c];omega
  ·rw[if_neg c];have lt:i-1<xs.size:=by omega
   have e:xs[i-1]? =some xs[i-1]:=Ol lt;have eg:xs.getD (i-1) 0=xs[i-1]:=by simp[Q7,lt]
   rw[eg];exact r.lt (show i-1<x by omega) e ha
def jJ(w:OT):Bool:=w.params.followText "set-order"
def jL(w:OT)(a:Addr)(ep:Nat)(es:Array (Int×NG)):Array (Int×NG):=if jJ w=true then YH (w.params.setOrder a ep) es else es
theorem su(w:OT)(a:Addr)(ep:Nat)(es:Array (Int×NG)):(jL w a ep es).toList.Perm es.toList:=by
 unfold jL;split
 ·exact yW _ _
 ·exact Sm _
theorem kC(w:OT)(a:Addr)(ep:Nat)(es:Array (Int×NG)):(jL w a ep es).size=es.size:=by
 have:=(su w a ep es).length_eq;simpa using this
def u9(w:OT)(t:PN)(i:Nat):Nat:=if jJ w=true then 0 else if i=0 then 0 else t.place.getD (i-1) 0+1
def RawSet(w:OT)(h:Heap)(d:Addr)(es:Array (Int×NG))(ep:Nat)(t:PN):Prop:= ∃o xs,h.get? d=some o/\SetAt w o es ep t xs
def IsSetIter(w:OT)(t:PN)(h:Heap)(it d:Addr)(i n ep:Nat):Prop:= ∃o,h.get? it=some o/\o.cls=.type "set_iterator"/\o.data=.fields #[.int (u9 w t i) 0,.int i 0,.ref d,.int n 0,.int ep 0]
theorem slot_si_next:Slot "set_iterator" "__next__" "set_iterator.__next__":=.of (owner:="set_iterator") (n:="__next__") (by rw[W1,UY];kernel_rfl) (by decide+kernel) (by decide+kernel) (by decide+kernel) (by first|exact .inl (by decide+kernel)|exact .inr (by decide+kernel)) (by rw[Ve];kernel_rfl)
theorem lj:entryFor table "set_iterator.__next__"=some Rc.«set_iterator.__next__»:=entryFor_of_tree (by kernel_rfl)
theorem vB:Manifest.owners.lookup (String.ofList ['r','o','t','a','r','e','t','i','_','t','e','s'].reverse)=some Manifest.sig_set_iterator:=by kernel_rfl
theorem mj(a:NG):argsOk "set_iterator.__next__" ⟨[a],[]⟩:=by unfold argsOk;rw[Yh (id:="set_iterator.__next__") (n:=['_','_','t','x','e','n','_','_']) (o:=['r','o','t','a','r','e','t','i','_','t','e','s']) (by kernel_rfl) vB];kernel_rfl
theorem mi:Slot "set_iterator" "__iter__" "set_iterator.__iter__":=.of (owner:="set_iterator") (n:="__iter__") (by rw[W1,UY];kernel_rfl) (by decide+kernel) (by decide+kernel) (by decide+kernel) (by first|exact .inl (by decide+kernel)|exact .inr (by decide+kernel)) (by rw[Ve];kernel_rfl)
theorem rn:entryFor table "set_iterator.__iter__"=some Rc.«dict_keyiterator.__iter__»:=XJ (id':="dict_keyiterator.__iter__") (by kernel_rfl) rfl (by decide+kernel) (by kernel_rfl)
theorem tf(a:NG):argsOk "set_iterator.__iter__" ⟨[a],[]⟩:=by unfold argsOk;rw[Yh (id:="set_iterator.__iter__") (n:=['_','_','r','e','t','i','_','_']) (o:=['r','o','t','a','r','e','t','i','_','t','e','s']) (by kernel_rfl) vB];kernel_rfl
section
variable {prog:OI}{w:OT}{A:OL}{E:NG->NH->Prop}{s:NH}{d it:Addr}{es:Array (Int×NG)}{ep i:Nat}{t:PN}
theorem RawSet.ty(h:RawSet w s.heap d es ep t):s.TypeIs (.ref d) "set":=let⟨o,_,h1,h2⟩:=h;⟨o,h1,h2.ex.1⟩
theorem RawSet.lt {h:Heap}(x:RawSet w h d es ep t):d<h.objs.size:=let⟨_,_,h1,_⟩:=x;N0 h1
theorem RawSet.to {h h':Heap}(x:RawSet w h d es ep t)(k: ∀o,h.get? d=some o->h'.get? d=some o):RawSet w h' d es ep t:=let⟨o,xs,h1,r⟩:=x;⟨o,xs,k o h1,r⟩
theorem IsSetIter.ty {n:Nat}(h:IsSetIter w t s.heap it d i n ep):s.TypeIs (.ref it) "set_iterator":=let⟨o,h1,h2,_⟩:=h;⟨o,h1,h2⟩
theorem o0:entryFor table "set.__iter__"=some Rc.«frozenset.__iter__»:=XJ (id':="frozenset.__iter__") (by kernel_rfl) rfl (by decide+kernel) (by kernel_rfl)
theorem ie {Q:Bool->NH->Prop}(h:Q (jJ w) s):N1 (model prog w) A setsByText Q E s:=by
 unfold setsByText;exact NE (SD (NJ h))
theorem Ex {Q:NG->NH->Prop}(x:RawSet w s.heap d es ep t)(q:Q (.ref s.heap.objs.size) {s with heap:=s.heap.push {cls:=.type "set_iterator",data:=.fields #[.int (u9 w t 0) 0,.int 0 0,.ref d,.int es.size 0,.int ep 0]}}):N1 (model prog w) A (U3 (.ref d)) Q E s:=by
 have ty:=x.ty;obtain⟨o,xs,g1,S⟩:=x;refine Wk ty W2 (Pa W2 ty o0 ?_ (F.args_set_iter_1 _));unfold Rc.«frozenset.__iter__»;unfold YI slotArgs;simp only[Q3,Qh,NX, ↓reduceIte,bind_assoc,RP,bne_self_eq_false];unfold QZ Yi setDrawn setEntries;refine NE (NJ ?_)
 try dsimp only
 refine NE (NJ ?_);refine NE (NE (NE (Pk g1 S.hd S.fits (NJ (NJ ?_)))));refine NE (NE (Pk g1 S.hd S.fits ?_));dsimp only;refine NE (ie (NJ ?_));have e0:(!jJ w&&(!t.plain&&decide (es.size>1)))=false:=by rw[S.pl];simp
 refine RQ (λhab=>absurd (show(!jJ w&&(!t.plain&&decide (es.size>1)))=true from hab) (by rw[e0];decide)) λ_=>?_
 refine NE (NJ (NE (wpAny_setEpoch_of g1 S.hd S.fits ?_)));refine NE (Pw (NJ ⟨_,rfl,"set_iterator",_,⟨_,NZ _ rfl,rfl⟩,slot_si_next.lookup,?_⟩));have:u9 w t 0=0:=by unfold u9;split<;>rfl
 rw[this] at q;simpa [R9] using q
theorem Fc {Q:Array (Int×NG)->NH->Prop}{o:Obj}{xs:nq}(g1:s.heap.get? d=some o)(S:SetAt w o es ep t xs)(h:Q (jL w d ep es) s):N1 (model prog w) A (setWalk d) Q E s:=by
 unfold setWalk;refine NE (Pk g1 S.hd S.fits ?_);dsimp only;refine NE (ie ?_);unfold jL at h
 by_cases c:jJ w=true
 ·rw[if_pos c];rw[if_pos c] at h;exact NE (SD (NJ h))
 ·rw[if_neg c];rw[if_neg c] at h;have e0:(!t.plain&&decide (es.size>1))=false:=by rw[S.pl];rfl
  refine RQ (λhab=>absurd (show(!t.plain&&decide (es.size>1))=true from hab) (by rw[e0];decide)) λ_=>?_
  have e1:(!t.led&&decide (es.size>1))=false:=by
   have:=S.led;unfold jJ at c;rw[this,eq_false_of_ne_true c];rfl
  refine NE ?_
  show N1 _ _ (if(!t.led&&decide (es.size>1))=true then RW _ else pure PUnit.unit) _ _ _;rw[if_neg (by rw[e1];decide)];exact NJ (NJ h)
theorem Ab {Q:Option (NG×Nat)->NH->Prop}{o:Obj}{xs:nq}(g1:s.heap.get? d=some o)(S:SetAt w o es ep t xs)(hi:i<=es.size)(h:Q (((jL w d ep es)[i]?).map λe=>(e.2,u9 w t (i+1))) s):N1 (model prog w) A (setNext d (u9 w t i) i ep) Q E s:=by
 unfold setNext;refine NE (Pk g1 S.hd S.fits ?_);dsimp only;refine NE (ie ?_)
 by_cases c:jJ w=true
 ·rw[if_pos c,bne_self_eq_false];simp only[NX,if_false];refine NE (Fc g1 S (NJ ?_));have e: ∀i,u9 w t i=0:=λi=>by unfold u9;rw[if_pos c]
  rw[e] at h⊢;exact h
 ·rw[if_neg c];have e0:(!t.plain&&decide (es.size>1))=false:=by rw[S.pl];rfl
  refine RQ (λhab=>absurd (show(!t.plain&&decide (es.size>1))=true from hab) (by rw[e0];decide)) λ_=>?_
  have e1:(!t.led&& !es.isEmpty)=false:=by
   have:=S.led;unfold jJ at c;rw[this,eq_false_of_ne_true c];rfl
  refine NE ?_
  show N1 _ _ (if(!t.led&& !es.isEmpty)=true then RW _ else pure PUnit.unit) _ _ _;rw[if_neg (by rw[e1];decide)];refine NJ ?_
  have zz:=S.T.sz;unfold vX at zz;rw[NK,<-S.size] at zz;have sl:u9 w t i=if i=0 then 0 else t.place.getD (i-1) 0+1:=by unfold u9;rw[if_neg c]
  have sl':u9 w t (i+1)=t.place.getD i 0+1:=by unfold u9;rw[if_neg c,if_neg (by omega)];rfl
  rw[sl,Ca S.T.sp (by omega)];refine NJ ?_
  have ew:jL w d ep es=es:=by unfold jL;rw[if_neg c]
  rw[ew,sl'] at h
  by_cases ci:i<es.size
  ·have p1:t.place[i]? =some (t.place[i]'(by omega)):=Ol (by omega);have p2:t.place.getD i 0=t.place[i]'(by omega):=by simp[Q7,show i<t.place.size by omega]
   rw[p1];rw[p2] at h;cases ee:es[i]? with
   |none=>rw[Ol ci] at ee;cases ee
   |some e=>rw[ee] at h;exact h
  ·rw[R5 (by omega)] at h⊢;exact h
theorem EE {Q:Option NG->NH->Prop}(hit:IsSetIter w t s.heap it d i es.size ep)(x:RawSet w s.heap d es ep t)(hi:i<es.size)
 (q: ∀h',IsSetIter w t h' it d (i+1) es.size ep->Pd it s.heap h'->Q (some ((jL w d ep es)[i]'(by rw[kC];exact hi)).2) {s with heap:=h'}):N1 (model prog w) A (R8 (.ref it)) Q E s:=by
 have ty:=hit.ty;obtain⟨o,k1,k2,k3⟩:=id hit;obtain⟨od,xs,g1,S⟩:=id x;unfold R8;refine NE (T8 (P0 (name:=RC "__next__") ty slot_si_next (Pa slot_si_next ty lj ?_ (mj _))));unfold Rc.«set_iterator.__next__» slotArgs;simp only[Q3,Qh,NX, ↓reduceIte,bind_assoc,RP,bne_self_eq_false];refine NE (NJ ?_);refine NE (XM k1 k3 ?_);dsimp only;refine NE (Vu g1 S.hd S.fits ?_);rw[bne_self_eq_false];simp only[NX,if_false,PL];refine NE (Ab g1 S (Q9 hi) ?_);have lt:i<(jL w d ep es).size:=by rw[kC];exact hi
 rw[Ol lt];dsimp only[Rj];refine NE (Si k1 k3 (by simp) ?_);have g2:(s.heap.update it (RJ (·.setIfInBounds 0 (R9 (u9 w t (i+1):Nat))))).get? it=some _:=Pg _ k1 (Rp (QH k3 _));refine NE (Si (s:={s with heap:=s.heap.update it (RJ (·.setIfInBounds 0 (R9 (u9 w t (i+1):Nat))))}) g2 (QH k3 _) (by simp) ?_);have e4:(RJ (·.setIfInBounds 1 (R9 ((i:Int)+1))) (RJ (·.setIfInBounds 0 (R9 (u9 w t (i+1):Nat))) o)).data=.fields #[.int (u9 w t (i+1)) 0,.int ((i+1:Nat):Int) 0,.ref d,.int es.size 0,.int ep 0]:=by
  rw[QH (QH k3 _)];simp[R9]
 have nx:IsSetIter w t ((s.heap.update it (RJ (·.setIfInBounds 0 (R9 (u9 w t (i+1):Nat))))).update it (RJ (·.setIfInBounds 1 (R9 ((i:Int)+1))))) it d (i+1) es.size ep:=
  ⟨_,Pg _ g2 (Rp e4),(TV ..).trans ((TV ..).trans k2),e4⟩
 exact NJ ⟨_,rfl,NJ (q _ nx ((PK ..).trans (PK ..)))⟩
theorem Gz {Q:Option NG->NH->Prop}(calm:A.handled=none)(hit:IsSetIter w t s.heap it d es.size es.size ep)(x:RawSet w s.heap d es ep t)
 (q: ∀h',TW it s.heap h'->Q none {s with heap:=h'}):N1 (model prog w) A (R8 (.ref it)) Q E s:=by
 have ty:=hit.ty;obtain⟨o,k1,k2,k3⟩:=id hit;obtain⟨od,xs,g1,S⟩:=id x;unfold R8;refine NE (T8 (P0 (name:=RC "__next__") ty slot_si_next (Pa slot_si_next ty lj ?_ (mj _))));unfold Rc.«set_iterator.__next__» slotArgs;simp only[Q3,Qh,NX, ↓reduceIte,bind_assoc,RP,bne_self_eq_false];refine NE (NJ ?_);refine NE (XM k1 k3 ?_);dsimp only;refine NE (Vu g1 S.hd S.fits ?_);rw[bne_self_eq_false];simp only[NX,if_false,PL];refine NE (Ab g1 S (NT _) ?_);rw[R5 (by rw[kC];exact NT _)];dsimp only[Option.map_none];refine NE (Si k1 k3 (by simp) ?_);show N1 _ _ (newExc (.type "StopIteration") []>>=_) _ _ _;refine NE ?_
 simp only[newExc,newTuple];refine NE (Pw (NE (m:=Tr _ _) (Vb (a:=OP) (by first|rfl|(simp only[Tr];rfl)) (Pw ?_ (by size_fits)))) (by size_fits));simp only[raiseNew];refine NE (Yg ?_);rw[show A.in1.handled=none from calm];refine NE (NJ (wpAny_throw ?_));refine NE (Uj (T:="StopIteration") (b:=true) ⟨_,NZ _ rfl,rfl⟩ XG ?_);exact NJ (q _ (((PK ..).extBut.push _).push _))
theorem IsSetIter.to {h h':Heap}{n:Nat}(x:IsSetIter w t h it d i n ep)(k: ∀o,h.get? it=some o->h'.get? it=some o):IsSetIter w t h' it d i n ep:=let⟨o,h1,r⟩:=x;⟨o,k o h1,r⟩
theorem CD {n:Nat}{Q:NG->NH->Prop}(hit:IsSetIter w t s.heap it d i n ep)(h:Q (.ref it) s):N1 (model prog w) A (U3 (.ref it)) Q E s:=by
 have ty:=hit.ty;refine Wk ty mi (Pa mi ty rn ?_ (tf _));show N1 _ _ (ret (.ref it)) _ _ s;exact NJ ⟨_,rfl,"set_iterator",_,ty,slot_si_next.lookup,h⟩
theorem BH(calm:A.handled=none)(I:Addr)(ne:d≠I):Walks prog w A I [I,d] [I] es.size (λi v=> ∃e,(jL w d ep es)[i]? =some e/\v=e.2) (λi h=>IsSetIter w t h I d i es.size ep/\RawSet w h d es ep t) where
 sub:=λb hb=>by simp at hb;simp[hb]
 frame:=λ_ _ _ st hk=>⟨st.1.to λo e=>hk I (by simp) o e,st.2.to λo e=>hk d (by simp) o e⟩
 item:=λi s Q E hi st hQ=>EE st.1 st.2 hi λh' it' sb=>hQ _ h' s.toks ⟨_,Ol (by rw[kC];exact hi),rfl⟩ ⟨it',st.2.to λo e=>sb.extBut d o ne e⟩ λb o hb e=>sb.extBut b o (λh=>hb (by simp[h])) e
 done:=λs Q E st hQ=>Gz calm st.1 st.2 λh' he'=>hQ h' s.toks λb o hb e=>he' b o (λh=>hb (by simp[h])) e
 self:=λ_ _ _ _ st hQ=>CD st.1 hQ
theorem B6 {r:Addr}{Q:Bool->NH->Prop}(hT:s.TypeIs (.ref r) "set")(h:Q false s):N1 (model prog w) A (Te (.ref r)) Q E s:=by
 unfold Te;refine NE (SU hT PySem.F.slot_set_len.lookup ?_);generalize hid:("set.__len__":String)=id0;wp_delta;rw[show splitId id0=some ("set","__len__") from by subst hid;decide+kernel];subst hid;refine NE (Uj (T:="set") (b:=true) hT (by rw[Ve];kernel_rfl) ?_);refine RQ (λhab=>absurd hab (by decide)) (λ_=>?_);refine RQ (λ_=>?_) (λhab=>absurd (by decide+kernel) hab);refine NE (wpAny_typeOf hT ?_);exact NJ h
theorem Gw:KdlSrc prog w "set" d d es.size (λi v=> ∃e,(jL w d ep es)[i]? =some e/\v=e.2) (λh=>RawSet w h d es ep t) where
 type:=λ_ h=>h.ty
 there:=λ_ h=>⟨h.lt,h.lt⟩
 keep:=λ_ _ h hk=>h.to λo e=>hk d (.inl rfl) o e
 notList:=by decide
 notTuple:=by decide
 hint:=λ_ _ _ _ h hq=>B6 h.ty hq
 iter:=λ_ _ hh h=>⟨_,_,λ_ _ hq=>Ex h hq,BH hh _ (Oz h.lt),⟨_,NZ _ rfl,rfl,rfl⟩,h.to λo e=>NM _ e⟩
end
set_option maxHeartbeats 4000000
def fV(w:OT):Obj:={cls:=.type "set",dict:=none,data:=.set #[] 0 (.fresh 0 0 (!jJ w))}
theorem BE(f m:Nat)(l:Bool):TOk (.fresh f m l) [] where
 pw:=⟨3,by omega,by omega,rfl⟩
 sz:=rfl
 sp:=Qo
 sd:=Qo
 lp:=λj h=>by cases h
 ld:=λj h=>by cases h
 dj:=λj h=>by cases h
 fl:=by show 0<=7;omega
 rc:=λx h=>by cases h
theorem CS(w:OT):SetOk w (fV w) #[] 0 (.fresh 0 0 (!jJ w)) []:=⟨⟨⟨rfl,rfl,rfl⟩,rfl,rfl,BE _ _ _,rfl,rfl,Vf⟩,by show 0*5<7*3;omega⟩
section
variable {prog:OI}{w:OT}{A:OL}{E:NG->NH->Prop}{s:NH}{a b:Addr}{o:Obj}{es:Array (Int×NG)}{ep:Nat}{t:PN}{xs:nq}{k:List Int}
theorem EY {as:List NG}(hc:WF "set.__new__" ⟨.type "set"::as,[]⟩=pure ()){Q₁:NG->NH->Prop}(h:Q₁ (.ref s.heap.objs.size) {s with heap:=s.heap.push (fV w)}):Qp (model prog w) A (.call (.builtin "set.__new__") ⟨.type "set"::as,[]⟩) (wants Q₁ E) s:=by
 refine UL ?_;show N1 _ A.in1 (do WF "set.__new__" ⟨.type "set"::as,[]⟩;U4 (.builtin "set.__new__" ⟨.type "set"::as,[]⟩)) _ _ s;refine NE (Vb hc (NJ ⟨VM W3 _,Ri F.entry_set_new ?_⟩));rw[QR W3 _];unfold Rc.«set.__new__» XN;have hsub:=sub_set_self;obtain⟨hp,g,d,tk,os⟩:=s;dsimp only
 wp_walk;refine SD (NJ ?_)
 dsimp only;simp only[newObj];refine NE (wpAny_alloc (NJ ?_));exact NJ h
theorem yA {Q:NG->NH->Prop}(h:Q (.ref s.heap.objs.size) {s with heap:=s.heap.push (fV w)}):N1 (model prog w) A (call (.type "set") []) Q E s:=by
 obtain⟨c,tl,hmro⟩:=Rg.mro;have hmade:=Rg.made;have hsub:=Rg.sub;refine wpAny_call (UL ?_);show N1 _ _ (callAny (.type "set") _) _ _ _;refine NJ ⟨Code.quiet_builtin _ (by decide+kernel),Ri F.entry_type_call ?_⟩;rw[Around.under_plain (weight_type_call_type "set" [] []) rfl];have h1:=Rg.notType;have h2:=Rg.canCreate;have hct:=F.typeCall_set_0
 repeat (any_goals (first|assumption|wp_step))
 refine Rb (EY (E:=E) F.newCall_set_0 (Q₁:=λobj s₁=>obj=.ref s.heap.objs.size/\s₁={s with heap:=s.heap.push (fV w)}) ⟨rfl,rfl⟩) λr s₁ hr=>?_
 cases r with
 |error e=>exact hr
 |ok fl=>
  cases fl with
  |ret obj=>
   obtain⟨rfl,rfl⟩:=hr;have hS:(s.heap.push (fV w)).get? s.heap.objs.size=some (fV w):=NZ _ rfl;have hS:(s.heap.push (fV w)).get? s.heap.objs.size=some {cls:=.type "set",dict:=none,data:=.set #[] 0 (.fresh 0 0 (!jJ w))}:=hS;have hT:Shared.TypeIs {s with heap:=s.heap.push (fV w)} (.ref s.heap.objs.size) "set":=⟨_,hS,rfl⟩
   have hli:=Rg.init.lookup;have hbi:=Rg.init.bind (.ref s.heap.objs.size)
   repeat (any_goals (first|assumption|wp_step))
   refine Rb (codeAny_call_builtin (R:=wants (λr s₂=>r=.none/\Q (.ref s.heap.objs.size) s₂) E) Rg.init.plain F.entry_set_init (check_set_init hT ?_)) λr₂ s₂ hr₂=>?_
   ·unfold Rc.«set.__init__» noKeywords
    wp_walk
    exact⟨rfl,h⟩
   ·cases r₂ with
    |error e=>exact hr₂
    |ok fl₂=>
     cases fl₂ with
     |ret r=>
      obtain⟨rfl,hq⟩:=hr₂
      repeat (any_goals (first|assumption|wp_step))
     |_=>exact hr₂.elim
  |_=>exact hr.elim
theorem SetAt.ty(ho:s.heap.get? a=some o)(S:SetAt w o es ep t xs):s.TypeIs (.ref a) "set":=⟨o,ho,S.ex.1⟩
theorem Gq(ho:s.heap.get? a=some o)(S:SetAt w o es ep t xs)(hE:FR prog w s.heap xs)(hu:A.units+1<PY)(hk:(KI prog w).is s.heap k b){Q:NG->NH->Prop}
 (h:Q (.bool (decide (k∈xs.map (·.1)))) {s with toks:=s.toks+(KI prog w).draws k}):N1 (model prog w) A (Px .In (.ref b) (.ref a)) Q E s:=by
 have hT:=SetAt.ty ho S;show N1 _ _ (do return .bool (<-contains (.ref a) (.ref b))) Q E s;refine NE ?_
 unfold contains
 try with_reducible refine O5 ?_
 refine NE (SU hT S6.lookup ?_);show N1 _ _ (if(some (Value.builtin "set.__contains__")==some OP)=true then _ else _) _ E s;rw[if_neg (by rw[beq_builtin_none];exact Ra)];refine NE (wpAny_callSpecialUnlessNone?_slot (name:=RC "__contains__") hT S6 (Pa S6 hT entry_set_contains ?_ (F.args_set_contains_2 _ _)));unfold Rc.«frozenset.__contains__» RB;simp only[Q3,bind_assoc];unfold QZ SF setContains;refine NE (NJ ?_)
 try dsimp only
 refine NE (NJ ?_)
 try dsimp only
 refine NE (XO ?_);refine O5 ?_
 have hu1:(KI prog w).room A.in1:=Tt hu;refine NE ((KI prog w).pyHash hu1 hk ?_);rw[DF];refine NE (wL (s:={s with toks:=s.toks+(KI prog w).draws k}) ho S hE hu1 hk (λi c hi=>?_) λnk=>?_)
 ·rw[decide_eq_true (N5.mpr ⟨(k,c),OF hi,rfl⟩)] at h;refine NJ ?_
  exact NJ ⟨_,rfl,Pl (NJ h)⟩
 ·rw[decide_eq_false nk] at h;refine NJ ?_
  exact NJ ⟨_,rfl,Pl (NJ h)⟩
theorem CP(ho:s.heap.get? a=some o)(S:SetOk w o es ep t xs)(hE:FR prog w s.heap xs)(hu:A.units+1<PY)(hk:(KI prog w).is s.heap k b)(hlen:xs.length<=1000){Q:NG->NH->Prop}
 (h: ∀h' o' es' ep' t' xs',Pd a s.heap h'->h'.get? a=some o'->SetOk w o' es' ep' t' xs'->((k∈xs.map (·.1)/\xs'=xs)\/(k∉xs.map (·.1)/\xs'.Perm (xs++[(k,b)])))->Q .none {s with heap:=h',toks:=s.toks+(KI prog w).draws k}):
 N1 (model prog w) A (call (.builtin "set.add") [.ref a,.ref b]) Q E s:=by
 have hT:=SetAt.ty ho S.toSetAt;have hu1:(KI prog w).room A.in1:=Tt hu;refine Pa F.slot_set_add hT F.entry_set_add ?_ (F.args_set_add_2 _ _)
 unfold Rc.«set.add» RB;simp only[Q3,bind_assoc];unfold QZ setAdd;refine NE (NJ ?_)
 try dsimp only
 refine NE (NJ ?_)
 try dsimp only
 refine NE ?_
 refine O5 (NE ((KI prog w).pyHash hu1 hk ?_));rw[DF];refine Fy (s:={s with toks:=s.toks+(KI prog w).draws k}) ho S hE hu1 hk hlen (λhm=>?_) λnm h' o' es' ep' t' xs' g1 g2 g3 g4=>?_
 ·exact NJ ⟨_,rfl,h s.heap o es ep t xs (TX a s.heap) ho S (.inl ⟨hm,rfl⟩)⟩
 ·exact NJ ⟨_,rfl,h h' o' es' ep' t' xs' g1 g2 g3 (.inr ⟨nm,g4⟩)⟩
theorem uC(ho:s.heap.get? a=some o)(S:SetOk w o es ep t xs)(hE:FR prog w s.heap xs)(hu:A.units+1<PY)(hk:(KI prog w).is s.heap k b)(hlen:xs.length<=1000){Q:NG->NH->Prop}
 (h: ∀h' o' es' ep' t' xs',Pd a s.heap h'->h'.get? a=some o'->SetOk w o' es' ep' t' xs'->((k∉xs.map (·.1)/\xs'=xs)\/(∃i c,xs[i]? =some (k,c)/\xs'=xs.eraseIdx i))->Q .none {s with heap:=h',toks:=s.toks+(KI prog w).draws k}):
 N1 (model prog w) A (call (.builtin "set.discard") [.ref a,.ref b]) Q E s:=by
 have hT:=SetAt.ty ho S.toSetAt;have hu1:(KI prog w).room A.in1:=Tt hu;refine Pa F.slot_set_discard hT F.entry_set_discard ?_ (F.args_set_discard_2 _ _)
 unfold Rc.«set.discard» RB;simp only[Q3,bind_assoc];unfold QZ SF setDiscard;refine NE (NJ ?_)
 try dsimp only
 refine NE (NJ ?_)
 try dsimp only
 refine NE (XO ?_);refine O5 (NE ((KI prog w).pyHash hu1 hk ?_));rw[DF];refine vD (s:={s with toks:=s.toks+(KI prog w).draws k}) ho S hE hu1 hk hlen (λnm=>?_) λhm h' o' es' ep' t' xs' g1 g2 g3 g4=>?_
 ·exact NJ ⟨_,rfl,h s.heap o es ep t xs (TX a s.heap) ho S (.inl ⟨nm,rfl⟩)⟩
 ·exact NJ ⟨_,rfl,h h' o' es' ep' t' xs' g1 g2 g3 (.inr g4)⟩
end
def vb(i:Nat)(ρ:aF):Option (List (List Int)):=match ρ[i]? with
 |some (.ob (.tset ks))=>some ks
 |_=>none
theorem rT {i:Nat}{ρ:aF}{ks:List (List Int)}(h:vb i ρ=some ks):ρ[i]? =some (.ob (.tset ks)):=by
 unfold vb at h;split at h
 ·cases h;assumption
 ·cases h
abbrev o3(xs:nq):List V:=xs.map λx=>V.ref x.2
abbrev Eu(xs:nq):List D:=xs.map λx=>D.tup (x.1.map D.int)
section
variable {K:NU}{c:Ct}{hid:bN}{ρ:aF}{σ:St}{H:Hp}{a:Addr}
theorem SR.setT(h:SR K c hid ρ σ H){i:Nat}{ks:List (List Int)}(e:vb i ρ=some ks): ∃a xs,σ[i]? =some (some (.ref a))/\hid a=true/\c.H₀ a=none/\H a=some (.tst xs)/\(xs.map (·.1)).Perm ks/\Reps K (vw H hid) (o3 xs) (Eu xs):=by
 obtain⟨a,h1,⟨h2,h3⟩,us,h4,h5,h6⟩:=h.sl i _ (rT e);exact⟨a,us,h1,h2,h3,h4,h5,h6⟩
theorem SR.putS {i:Nat}{ks ks':List (List Int)}{xs':nq}(h:SR K c hid ρ σ H)(hg:vb i ρ=some ks)(ha:σ[i]? =some (some (.ref a)))(p:(xs'.map (·.1)).Perm ks')(r:Reps K (vw H hid) (o3 xs') (Eu xs')):SR K c hid (ρ.set i (.ob (.tset ks'))) σ (cm H a (.tst xs')):=by
 obtain⟨a1,us,h1,h2,h3,h4,h5,h6⟩:=h.setT hg;rw[ha] at h1;cases h1;exact h.putO (rT hg) trivial trivial ha (.inl rfl) h2 h3 nofun ⟨⟨h2,h3⟩,xs',ba,p,by rw[fX h2];exact r⟩
end
theorem items_int {prog:OI}{w:OT}: ∀ {ns:List Int} {us:List NG},Vals (ns.map V.int) us->PySem.ItemsAre (intKind prog w) ns us
 | [],_,h=>by cases h;exact .nil
 |n::ns,_,h=>by
  cases h with
  |cons r rs=>
   obtain⟨t,rfl⟩:=r;exact .cons (intKind_is _ _ _ _) (items_int rs)
section
variable {X:Cx}{ah:List (Addr×Obj)}{σ:St}{H:Hp}{s:NH}{a b:Addr}{A:OL}{E:NG->NH->Prop}
theorem pF {ks:List Int}(I:Inv X ah σ H s)(h:SqT X.K H b (ks.map V.int)):(KI X.prog X.w).is s.heap ks b:=by
 obtain⟨its,r,⟨o,h1,h2,n,h3⟩,_⟩:=I.tuple h;exact⟨o,its.toArray,n,h1,h2,h3,by simpa using items_int r⟩
theorem xW {xs:nq}(I:Inv X ah σ H s)(h: ∀x∈xs,SqT X.K H x.2 (x.1.map V.int)):FR X.prog X.w s.heap xs:=λx hx=>pF I (h x hx)
def Lc:List V->Hp->VK->Prop:=λxs H Q=>xs=[]/\ ∀a,H a=none->Q (.ref a) (cm H a (.tst []))
theorem yz:dB X (.type "set") Lc:=by
 intro ah s σ H xs us Q I r h;obtain⟨rfl,q⟩:=h;cases r;refine yA ?_
 exact⟨.ref s.heap.objs.size,_,I.laid (t':=s.toks) (λb o e=>NM _ e) (NT _) (show ObjOk X.prog X.w _ _ _ (.tst []) from⟨_,_,_,_,NZ _ rfl,CS _⟩),rfl,q _ (I.hok.fresh (NT _))⟩
def K2(zs:nq)(k:List Int)(b:Addr)(zs':nq):Prop:=(k∈zs.map (·.1)/\zs'=zs)\/(k∉zs.map (·.1)/\zs'.Perm (zs++[(k,b)]))
def Li(zs:nq)(k:List Int)(zs':nq):Prop:=(zs.map (·.1)).Nodup/\((k∉zs.map (·.1)/\zs'=zs)\/(∃(i:Nat) (c:Addr),zs[i]? =some (k,c)/\zs'=zs.eraseIdx i))
def Lk(K:NU):V->List V->Hp->VK->Prop:=λx xs H Q=> ∃a b zs k,x=.ref a/\xs=[.ref b]/\H a=some (.tst zs)/\SqT K H b (k.map V.int)/\(∀z∈zs,SqT K H z.2 (z.1.map V.int))/\zs.length<=1000/\ ∀zs',K2 zs k b zs'->Q .non (cm H a (.tst zs'))
def KM(K:NU):V->List V->Hp->VK->Prop:=λx xs H Q=> ∃a b zs k,x=.ref a/\xs=[.ref b]/\H a=some (.tst zs)/\SqT K H b (k.map V.int)/\(∀z∈zs,SqT K H z.2 (z.1.map V.int))/\zs.length<=1000/\ ∀zs',Li zs k zs'->Q .non (cm H a (.tst zs'))
theorem zT {h':Heap}{t':Nat}{o':Obj}{es':Array (Int×NG)}{ep':Nat}{tb':PN}{xs zs':nq}(I:Inv X ah σ H s)(e:H a=some (.tst xs))(hs:Pd a s.heap h')(hg:h'.get? a=some o')(S:SetOk X.w o' es' ep' tb' zs'):
 Inv X ah σ (cm H a (.tst zs')) {s with heap:=h',toks:=t'}:=I.write (x:=a) (e:=a) (by rw[e];trivial) (.inl rfl) (λb u hb hu=>(hs.2 b hb).trans hu) ⟨_,hg⟩ ⟨_,_,_,_,hg,S⟩
theorem F1(hu:X.A.units+1<PY):LZ X "set.add" (Lk X.K):=by
 intro ah s σ H x xs v us Q I rx rv h;obtain⟨a,b,zs,k,rfl,rfl,hH,hb,hz,hl,q⟩:=h;cases rx;obtain⟨u,rfl,ru⟩:=rv.one;cases ru;obtain⟨o,es,ep,t,ho,S⟩:=(show ObjOk X.prog X.w H s.heap a (.tst zs) from I.hok a _ hH)
 refine CP ho S (xW I hz) hu (pF I hb) hl λh' o' es' ep' t' xs' g1 g2 g3 g4=>?_
 exact⟨.non,_,zT I hH g1 g2 g3,rfl,q _ g4⟩
theorem GY(hu:X.A.units+1<PY):LZ X "set.discard" (KM X.K):=by
 intro ah s σ H x xs v us Q I rx rv h;obtain⟨a,b,zs,k,rfl,rfl,hH,hb,hz,hl,q⟩:=h;cases rx;obtain⟨u,rfl,ru⟩:=rv.one;cases ru;obtain⟨o,es,ep,t,ho,S⟩:=(show ObjOk X.prog X.w H s.heap a (.tst zs) from I.hok a _ hH)
 refine uC ho S (xW I hz) hu (pF I hb) hl λh' o' es' ep' t' xs' g1 g2 g3 g4=>?_
 exact⟨.non,_,zT I hH g1 g2 g3,rfl,q _ ⟨S.nd,g4⟩⟩
end
section
variable {X:Cx}{o i:Expr}{pos:Pos}{td ty:TE}
def MT(K:NU)(ty td:TE):TE:=λσ H Q=>ty σ H λy H1=>td σ H1 λx H2=> ∃a b zs k,x=.ref a/\y=.ref b/\H2 a=some (.tst zs)/\SqT K H2 b (k.map V.int)/\(∀z∈zs,SqT K H2 z.2 (z.1.map V.int))/\Q (.bl (decide (k∈zs.map (·.1)))) H2
theorem Ij(hu:X.A.units+1<PY)(hi:PE X i ty)(ho:PE X o td):PC X .In i o (MT X.K ty td):=by
 intro ah s σ H Q I h;refine bU (hi ah s σ H _ I h) λiv s1 ⟨y,H1,I1,ry,q1⟩=>bU (ho ah s1 σ H1 _ I1 q1) λu s2 hq_=>?_
 obtain⟨x,H2,I2,rx,a,b,zs,k,ex,ey,g1,g2,g3,q2⟩:=hq_;subst ex ey;obtain rfl:u=PM a:=rx;obtain rfl:iv=PM b:=ry;obtain⟨o,es,ep,t,ho,S⟩:=(show ObjOk X.prog X.w H2 s2.heap a (.tst zs) from I2.hok a _ g1)
 refine Gq ho S.toSetAt (xW I2 g3) hu (pF I2 g2) ?_
 have q2:Q (.bl (decide (k∈XE (λx:List Int×Addr=>x.1) zs))) H2:=q2;generalize decide (k∈XE (λx:List Int×Addr=>x.1) zs)=bb at q2⊢;exact⟨.bl bb,H2,I2.tok _,rfl,q2⟩
end
abbrev Nc(K:NU)(H:Hp):List V->List (List Int)->Prop:=Paired λy ks=> ∃b,y=.ref b/\SqT K H b (ks.map V.int)
theorem DQ {K:NU}{H:Hp}: ∀ {zs:nq},(∀z∈zs,SqT K H z.2 (z.1.map V.int))->Nc K H (o3 zs) (zs.map (·.1))
 | [],_=>.nil
 |z::zs,h=>.cons ⟨z.2,rfl,h z Oe⟩ (DQ λy hy=>h y (N3 _ hy))
theorem Ax {K:NU}{H:Hp}: ∀ {ys:List V} {kss:List (List Int)} {i:Nat},Nc K H ys kss->i<kss.length-> ∃b,ys.getD i .non=.ref b/\SqT K H b ((kss.getD i []).map V.int)
 |_,_,_,.nil,e=>by simp at e
 |_,_,0,.cons h _,e=>by obtain⟨b,h1,h2⟩:=h;exact⟨b,by simpa using h1,by simpa using h2⟩
 |_,_,i+1,.cons _ r,e=>by
  obtain⟨b,h1,h2⟩:=Ax (i:=i) r (by simpa using e);exact⟨b,by simpa using h1,by simpa using h2⟩
theorem vV: ∀zs:nq,Vals (o3 zs) (zs.map λx=>PM x.2)
 | []=>.nil
 |_::zs=>.cons rfl (vV zs)
theorem xm {α β:Type}(f:α->β){l m:List β}(p:l.Perm m): ∀zs:List α,m=zs.map f-> ∃zs':List α,zs'.Perm zs/\l=zs'.map f:=by
 induction p with
 |nil=>intro zs e;exact⟨zs,Sm _,e⟩
 |cons x p ih=>
  intro zs e;cases zs with
  |nil=>cases e
  |cons z zs=>
   rw[NS] at e;injection e with e1 e2
   obtain⟨zs',h1,h2⟩:=ih zs e2;exact⟨z::zs',h1.cons z,by rw[e1,h2];rfl⟩
 |swap x y l=>
  intro zs e;cases zs with
  |nil=>cases e
  |cons z zs=>
   cases zs with
   |nil=>cases e
   |cons z2 zs=>
    rw[NS,NS] at e;injection e with e1 e2
    injection e2 with e2 e3
    exact⟨z2::z::zs,Vc z z2 zs,by rw[e1,e2,e3];rfl⟩
 |trans p1 p2 ih1 ih2=>
  intro zs e;obtain⟨zs1,h1,h2⟩:=ih2 zs e;obtain⟨zs2,h3,h4⟩:=ih1 zs1 h2;exact⟨zs2,h3.trans h1,h4⟩
theorem iM {k l:List (List Int)}(h:k.Perm l):bj bu k=bj bu l:=kP ym ((aS k).trans h) (kA ym k)
section
variable {X:Cx}
open PySem.W
theorem uT(hc:X.calm=true):dB X (.builtin "sorted") (λxs H Q=> ∃a zs,xs=[.ref a]/\H a=some (.tst zs)/\(∀z∈zs,SqT X.K H z.2 (z.1.map V.int))/\zs.length<64/\(∀z∈zs,z.1≠[])/\
 ∀l (zs':nq),H l=none->(∀z∈zs',z∈zs)->zs'.map (·.1)=bj bu (zs.map (·.1))->Q (.ref l) (cm H l (.lst (o3 zs')))):=by
 intro ah s σ H xs vs Q I r h;obtain⟨a,zs0,rfl,ha,hsq0,hz0,hne0,q⟩:=h;obtain⟨u,rfl,rx⟩:=jN r;cases rx;obtain⟨o,es,ep,t,ho,S⟩:=(show ObjOk X.prog X.w H s.heap a (.tst zs0) from I.hok a _ ha)
 obtain⟨zs,pz,ez⟩:=xm F4 (su X.w a ep es) zs0 S.he;have hsq: ∀z∈zs,SqT X.K H z.2 (z.1.map V.int):=λz hz=>hsq0 z (pz.mem_iff.mp hz)
 have hne: ∀k∈zs.map (·.1),k≠[]:=λk hk=>by
  obtain⟨z,hz,rfl⟩:=N5.mp hk;exact hne0 z (pz.mem_iff.mp hz)
 have hz:zs.length<64:=by rw[pz.length_eq];exact hz0
 have ky:=DQ hsq;obtain⟨kss,hkss⟩: ∃kss,kss=zs.map (·.1):=⟨_,rfl⟩
 rw[<-hkss] at ky hne;have lk:kss.length=zs.length:=by rw[hkss,NK]
 obtain⟨its,hits⟩: ∃its,its=zs.map λx=>PM x.2:=⟨_,rfl⟩
 have li:its.length=kss.length:=by rw[hits,NK,lk]
 have rv:Vals (o3 zs) its:=by rw[hits];exact vV zs
 have sz:es.size=its.length:=by rw[S.toSetAt.size,<-pz.length_eq,li,lk]
 have raw:RawSet X.w s.heap a es ep t:=⟨o,zs0,ho,S.toSetAt⟩
 have gi: ∀i,i<kss.length-> ∃(b:Addr) (o:Obj) (ts:List NG) (n:Nat),its.getD i OP=.ref b/\s.heap.get? b=some o/\o.cls=.type "tuple"/\o.data=.seq ts.toArray n/\ui ts (kss.getD i []):=λi hi=>by
  obtain⟨b,h1,h2⟩:=Ax ky hi;have r1:=oC rv i;rw[h1] at r1;obtain⟨ts,r',⟨o,ho,hc,n,hd⟩,_⟩:=I.tuple h2;exact⟨b,o,ts,n,r1,ho,hc,hd,HI r'⟩
 have kt: ∀(g:Heap),(∀c o,s.heap.get? c=some o->g.get? c=some o)-> ∀(l:List NG) (ms:List (List Int)),l.length=ms.length->(∀i,i<ms.length-> ∃(b:Addr) (o:Obj) (ts:List NG) (n:Nat),l.getD i OP=.ref b/\s.heap.get? b=some o/\o.cls=.type "tuple"/\o.data=.seq ts.toArray n/\ui ts (ms.getD i []))->(∀k∈ms,k≠[])->
  ∃fs,KatTups g l fs/\fs.length=l.length/\ ∀v∈fs,∃i t,v=Tf i t:=by
  intro g kg l
  induction l with
  |nil=>intro ms _ _ _;exact⟨[],.nil,rfl,λ_ h=>nomatch h⟩
  |cons v l ih=>
   intro ms hl hg hk;cases ms with
   |nil=>cases hl
   |cons m ms=>
    obtain⟨fs,f1,f2,f3⟩:=ih ms (by simpa using hl) (λi hi=>by simpa using hg (i+1) (by simpa using hi)) λk hk'=>hk k (by simp[hk'])
    obtain⟨b,o,ts,n,g1,g2,g3,g4,g5⟩:=hg 0 (by simp);simp[OJ] at g1 g5;subst g1;cases m with
    |nil=>exact absurd rfl (hk [] (by simp))
    |cons x xs=>
     cases g5 with
     |cons y1 y2=>
      obtain⟨t,rfl⟩:=y1;refine⟨_,Zj (kg _ _ g2) g3 g4 (by simp;rfl) f1,by simp[f2],λv hv=>?_⟩;rcases Oc.mp hv with rfl|hv
      ·exact⟨_,_,rfl⟩
      ·exact f3 v hv
 refine xq (us:=its) (G:=λix=>(∀i∈ix,i<kss.length)/\ix.map (λi=>kss.getD i [])=bj bu kss) (sz▸Gw (es:=es) (ep:=ep) (t:=t)) (λi v hi hv=>?_) (I.ok.hd hc) raw (by omega) (λfew=>⟨λi hi=>?_,?_⟩) (λh2 g tk kg=>?_) (λg tk p e ix kg hp hG hg=>?_)
 ·obtain⟨e,h1,rfl⟩:=hv;rw[<-Ot,ez,OH] at h1;obtain⟨x,h2,rfl⟩:=Pq.mp h1;rw[hits,OH,h2];rfl
 ·rw[NF] at hi;omega
 ·rw[li,lI,jA (by omega)]
 ·obtain⟨fs,f1,f2,f3⟩:=kt g kg its kss li gi hne;refine kat_kind (T:=.type "int") f1 (by omega) (λv hv=>?_) (by rfl) ⟨rfl,?_⟩
  ·obtain⟨i,t,rfl⟩:=f3 v hv;exact YC
  ·rw[li];refine tW (b:=λi j=>bu (kss.getD i []) (kss.getD j [])) (Es ym _) (by omega) (λi j C hi hj hC=>?_) λp P S=>⟨rfl,?_,?_⟩
   ·obtain⟨b1,o1,ts1,n1,x1,x2,x3,x4,x5⟩:=gi i hi;obtain⟨b2,o2,ts2,n2,y1,y2,y3,y4,y5⟩:=gi j hj;unfold We;rw[x1,y1];refine kat_lt (kg _ _ x2) x4 (kg _ _ y2) y4 ?_
    refine uU 0 x5 y5 ?_ hC;have z1:=RH x5;have z2:=RH y5;simp[z1,z2]
   ·intro i hi;have:=P.perm.mem_iff.mp (QP.mp hi);simpa using this
   ·exact j2 ym P S
 ·have lt: ∀i∈ix,i<zs.length:=λi hi=>by have:=hG.1 i hi;omega
  have e1:(ix.map λi=>zs.getD i ([],0)).map (·.1)=bj bu (zs0.map (·.1)):=by
   rw[<-iM (pz.map (·.1)),<-hkss,<-hG.2,N6];refine Oq λi hi=>?_
   have:=lt i hi;rw[hkss];simp[OJ,this]
  have e2:o3 (ix.map λi=>zs.getD i ([],0))=ix.map λi=>(o3 zs).getD i .non:=by
   show(ix.map λi=>zs.getD i ([],0)).map (λx=>V.ref x.2)=_;rw[N6];refine Oq λi hi=>?_
   have:=lt i hi;simp[o3,OJ,this]
  have ll:ix.length=zs0.length:=by
   have:=congrArg Rx e1;rw[NK,NK,(aS (lt:=bu) (zs0.map (·.1))).length_eq,NK] at this;exact this
  have qq:=q p (ix.map λi=>zs.getD i ([],0)) (I.hok.fresh hp) (λz hz=>by
   obtain⟨i,hi,rfl⟩:=N5.mp hz;have:=lt i hi;refine pz.mem_iff.mp ?_
   simp[OJ,this]) e1
  rw[e2] at qq;refine⟨.ref p,_,I.laid (t':=tk) kg hp (show ObjOk X.prog X.w _ g _ (.lst (ix.map λi=>(o3 zs).getD i .non)) from⟨?_,_,e,n6 rv ix,hg⟩),rfl,qq⟩;rw[NK,ll,PB];omega
end
theorem fN {K:NU}{F:Hp}: ∀ {xs:nq},Reps K F (o3 xs) (Eu xs)-> ∀x∈xs,Rep K F (.ref x.2) (.tup (x.1.map D.int))
 | [],_,x,h=>by cases h
 |y::xs,r,x,h=>by
  cases r with
  |cons r rs=>
   rcases Oc.mp h with rfl|h
   ·exact r
   ·exact fN rs x h
theorem ml {K:NU}{F:Hp}: ∀ {xs:nq},(∀x∈xs,Rep K F (.ref x.2) (.tup (x.1.map D.int)))->Reps K F (o3 xs) (Eu xs)
 | [],_=>.nil
 |x::xs,h=>.cons (h x Oe) (ml λy hy=>h y (N3 _ hy))
theorem sW {K:NU}{H:Hp}{hid:bN}{b:Addr}{ns:List Int}(h:Rep K (vw H hid) (.ref b) (.tup (ns.map D.int))):SqT K H b (ns.map V.int):=by
 obtain⟨b',z,e,_,h2,h3⟩:=(show Rep1 K H (vw H hid) (.ref b) (.tup (ns.map D.int)) from .inl h).tup;cases e;rw[qu h3,N6] at h2;exact h2
section
variable {X:Cx}{c:Ct}{k k1 k2:Kd}{e f ev:Expr}{es:List Expr}{fe ff fk fv:FE}{fs:FA}{pos pos' py apos cpos p:Pos}{x y:Str}{x1:_}
def CI(i:Nat):FS:=λρ=>.nx (ρ.set i (.ob (.tset [])))
theorem Gs(i:Nat)(hn:X.N.Nodup)(hm:X.mg "set"=none)(hi:X.N[i]? =some x:=by rfl)(hx:D4 X.env.scope x:=by first|exact P7 rfl|exact Pi rfl)(hs:Q1 (.Call (.Name "set" p) [] [] cpos) (some (.Name x pos')) pos.line X.env=pure false:=by rfl)
 (hf:X.fn x=true\/X.env.scope.names.lookup x=some .local:=by first|exact .inl rfl|exact .inr rfl|assumption) (hg:Gl X "set":=by rfl) (hv:PF "set"=some (.type "set"):=by kernel_rfl):DS X c k (.Assign [.Name x pos'] (.Call (.Name "set" p) [] [] cpos) pos) (CI i):=λρ=>PS.imp (uN hn hi hx (x9 yz hg hm hv) hs hf) λD σ H hq_=>by
 obtain⟨hid,sr,q⟩:=hq_;refine⟨rfl,λa ha=>?_⟩;have sm:=bf ha (.tst []);have nf:=sr.fresh ha;refine q _ _ (bc hid a) (SR.setD (a:=a) (b:=.tset []) (sr.hide sm ha ba) ⟨⟨fH,sr.fresh0 ha⟩,[],ba,Sm _,.nil⟩ (sr.notOw nf) i) λb o w=>?_
 obtain⟨w1,w2⟩:=vw_some.mp w;refine vw_some.mpr ⟨?_,sm b o w2⟩;unfold bc;rw[w1];have:b≠a:=bG w2 ha;simp[this]
def AR(i:Nat)(fk:FE):FT:=λρ=>(vb i ρ).bind λks=>((fk ρ).bind Ck).map λk=>decide (k∈ks)
theorem GX(i:Nat)(hu:X.A.units+1<PY)(he:DP X c k1 e fe)(hN:X.N[i]? =some y:=by rfl)(hv':xG X.env.scope y:=by first|exact P7 rfl|exact Pi (P7 rfl)|exact Pi (Pi rfl))(hd:(y==("__debug__":Str))=false:=by decide)
 (hcd:(y==("__classdict__":Str))=false:=by decide) (hm:QW .In (.Name y py)=false:=by rfl):DT X c (.Compare e [.In] [.Name y py] pos) (AR i fe):=λhid ρ=>
 PT.imp (IX (Ij hu (he hid ρ) (pv i hN hv' hd hcd)) hm) λσ H Q hq_=>by
  obtain⟨sr,d,hd,q⟩:=hq_;obtain⟨ks,e0,hd⟩:=Oa.mp hd;obtain⟨kk,e1,rfl⟩:=Pq.mp hd;obtain⟨dk,e3,e4⟩:=Oa.mp e1;have e5:=nP e4;subst e5;obtain⟨a,xs,a1,a2,a3,a4,a5,a6⟩:=sr.setT e0;refine⟨sr,_,e3,λz H2 s2 r2=>⟨.ref a,a1,?_⟩⟩;obtain⟨b,rfl,hb⟩:=yF (RK.b k1 r2 λa n=>sr.fresh n);have hb:SqT X.K H2 b (kk.map V.int):=by unfold iK at hb;rw[N6] at hb;exact hb
  refine⟨a,b,xs,kk,rfl,rfl,s2 _ _ a4,hb,λz hz=>sW ((fN a6 z hz).mono (aY s2)),_,rfl,?_⟩;rw[show decide (kk∈xs.map (·.1))=decide (kk∈ks) from decide_eq_decide.mpr a5.mem_iff];exact q H2 s2
def jZ(ks:List (List Int))(k:List Int):List (List Int):=if k∈ks then ks else ks++[k]
def kc(ks:List (List Int))(k:List Int):List (List Int):=ks.filter λx=>decide (x≠k)
def rm(op:List (List Int)->List Int->List (List Int))(i:Nat)(fk:FE):GE:=λρ=>(vb i ρ).bind λks=>((fk ρ).bind Ck).bind λk=>if ks.length<=1000 then some (.non,ρ.set i (.ob (.tset (op ks k)))) else none
theorem CU {zs zs':nq}{ks:List (List Int)}{k:List Int}{b:Addr}(h:K2 zs k b zs')(p:(zs.map (·.1)).Perm ks):(zs'.map (·.1)).Perm (jZ ks k)/\ ∀z∈zs',z∈zs\/z=(k,b):=by
 unfold jZ;rcases h with⟨h1,rfl⟩|⟨h1,h2⟩
 ·rw[if_pos (p.mem_iff.mp h1)];exact⟨p,λz hz=>.inl hz⟩
 ·rw[if_neg λw=>h1 (p.mem_iff.mpr w)];refine⟨(h2.map (·.1)).trans ?_,λz hz=>?_⟩
  ·rw[O3];exact p.append (Sm _)
  ·rcases Pt.mp (h2.mem_iff.mp hz) with q|q
   ·exact .inl q
   ·exact .inr (by simpa using q)
theorem E9 {zs zs':nq}{ks:List (List Int)}{k:List Int}(h:Li zs k zs')(p:(zs.map (·.1)).Perm ks):(zs'.map (·.1)).Perm (kc ks k)/\ ∀z∈zs',z∈zs:=by
 obtain⟨nd,h⟩:=h;unfold kc;have pf:=p.filter λx=>decide (x≠k)
 rcases h with⟨h1,rfl⟩|⟨i,c,h1,rfl⟩
 ·refine⟨?_,λz hz=>hz⟩;have:(zs'.map (·.1)).filter (λx=>decide (x≠k))=zs'.map (·.1):=OW.mpr λx hx=>decide_eq_true λw=>h1 (w▸hx)
  rw[this] at pf;exact pf
 ·refine⟨?_,λz hz=>List.mem_of_mem_eraseIdx hz⟩;refine List.Perm.trans ?_ pf;have e1:(zs.map (·.1))[i]? =some k:=by rw[OH,h1];rfl
  rw[<-qG];generalize zs.map (·.1)=l at e1 nd;refine(Ou (RS (Rn _ _) nd) (RS Vv nd)).mpr λx=>?_
  rw[Sy,OU,decide_eq_true_eq];constructor
  ·rintro⟨j,ne,e⟩;refine⟨OF e,λw=>ne ?_⟩;subst w;exact(TY (NY.mp e).1 nd).mp (e.trans e1.symm)
  ·rintro⟨h,ne⟩;obtain⟨j,hj⟩:=OD.mp h;exact⟨j,λw=>by subst w;rw[e1] at hj;cases hj;exact ne rfl,hj⟩
theorem GT(i:Nat)(hu:X.A.units+1<PY)(he:DP X c .s e fe)
 (hN:X.N[i]? =some y:=by rfl) (hv:xG X.env.scope y:=by first|exact P7 rfl|exact Pi (P7 rfl)|exact Pi (Pi rfl)) (hd:(y==("__debug__":Str))=false:=by decide) (hcd:(y==("__classdict__":Str))=false:=by decide)
 (hbase:SL (.Name y py) "add" X.env (eval (.Name y py) X.env)=eval (.Name y py) X.env:=by rfl)
 (hfew:((Ql pos (N8 [e] X.env)).all (λx=> !x.1)&&(V8 pos (TQ [] X.env)).all (λx=>x.1.isSome)&&decide ([e].length+([]:List S9).length+(if([]:List S9).isEmpty then 0 else 1)<30))=true:=by rfl)
 (hline:(apos.endLine==pos.line)=true:=by rfl) (hs:N8 [e] X.env=(false,eval e X.env)::N8 [] X.env:=by rfl) (hplain:(Ql pos (N8 [] X.env)).any (·.1)=false:=by rfl):
 DE X c .s (.Call (.Attribute (.Name y py) "add" apos) [e] [] pos) (rm jZ i fe):=λhid ρ=>
 PE.imp (Af UF PySem.F.slot_set_add PySem.F.type_set_add (F1 hu) (pv i hN hv hd hcd) (eQ (he hid ρ) iU hs) hbase hfew hline hs hplain) λσ H Q hq_=>by
  obtain⟨sr,d,ρ',hd',q⟩:=hq_;obtain⟨ks,e0,hd'⟩:=Oa.mp hd';obtain⟨kk,e1,hd'⟩:=Oa.mp hd';obtain⟨dk,e3,e4⟩:=Oa.mp e1;split at hd'
  ·rename_i hz
   cases hd';have e5:=nP e4;subst e5;obtain⟨a,xs,a1,a2,a3,a4,a5,a6⟩:=sr.setT e0;refine⟨.ref a,a1,.inr (.inr (.inr (.inr ⟨rfl,xs,a4⟩))),sr,_,e3,λz H2 s2 r2=>?_⟩;have r2:Rep X.K (vw H2 hid) z (.tup (kk.map D.int)):=r2;obtain⟨b,rfl,hb⟩:=yF (.inl r2);have hb:=sW r2;refine⟨a,b,xs,kk,rfl,rfl,s2 _ _ a4,hb,λz hz=>sW ((fN a6 z hz).mono (aY s2)),by have:=a5.length_eq;rw[NK] at this;omega,λzs' hzs=>?_⟩;obtain⟨g1,g2⟩:=CU hzs a5;refine q _ _ ⟨λb' o w hb'=>?_,(sr.ext s2).putS e0 a1 g1 (ml λz hz=>?_),.non⟩
   ·rw[aR λw'=>by subst w';rw[a2] at hb';cases hb'];exact s2 _ _ w
   ·rcases g2 z hz with h|rfl
    ·exact(fN a6 z h).mono (aY s2)
    ·exact r2
  ·cases hd'
theorem Hf(i:Nat)(hu:X.A.units+1<PY)(he:DP X c .s e fe)
 (hN:X.N[i]? =some y:=by rfl) (hv:xG X.env.scope y:=by first|exact P7 rfl|exact Pi (P7 rfl)|exact Pi (Pi rfl)) (hd:(y==("__debug__":Str))=false:=by decide) (hcd:(y==("__classdict__":Str))=false:=by decide)
 (hbase:SL (.Name y py) "discard" X.env (eval (.Name y py) X.env)=eval (.Name y py) X.env:=by rfl)
 (hfew:((Ql pos (N8 [e] X.env)).all (λx=> !x.1)&&(V8 pos (TQ [] X.env)).all (λx=>x.1.isSome)&&decide ([e].length+([]:List S9).length+(if([]:List S9).isEmpty then 0 else 1)<30))=true:=by rfl)
 (hline:(apos.endLine==pos.line)=true:=by rfl) (hs:N8 [e] X.env=(false,eval e X.env)::N8 [] X.env:=by rfl) (hplain:(Ql pos (N8 [] X.env)).any (·.1)=false:=by rfl):
 DE X c .s (.Call (.Attribute (.Name y py) "discard" apos) [e] [] pos) (rm kc i fe):=λhid ρ=>
 PE.imp (Af UF PySem.F.slot_set_discard PySem.F.type_set_discard (GY hu) (pv i hN hv hd hcd) (eQ (he hid ρ) iU hs) hbase hfew hline hs hplain) λσ H Q hq_=>by
  obtain⟨sr,d,ρ',hd',q⟩:=hq_;obtain⟨ks,e0,hd'⟩:=Oa.mp hd';obtain⟨kk,e1,hd'⟩:=Oa.mp hd';obtain⟨dk,e3,e4⟩:=Oa.mp e1;split at hd'
  ·rename_i hz
   cases hd';have e5:=nP e4;subst e5;obtain⟨a,xs,a1,a2,a3,a4,a5,a6⟩:=sr.setT e0;refine⟨.ref a,a1,.inr (.inr (.inr (.inr ⟨rfl,xs,a4⟩))),sr,_,e3,λz H2 s2 r2=>?_⟩;have r2:Rep X.K (vw H2 hid) z (.tup (kk.map D.int)):=r2;obtain⟨b,rfl,hb⟩:=yF (.inl r2);have hb:=sW r2;refine⟨a,b,xs,kk,rfl,rfl,s2 _ _ a4,hb,λz hz=>sW ((fN a6 z hz).mono (aY s2)),by have:=a5.length_eq;rw[NK] at this;omega,λzs' hzs=>?_⟩;obtain⟨g1,g2⟩:=E9 hzs a5;refine q _ _ ⟨λb' o w hb'=>?_,(sr.ext s2).putS e0 a1 g1 (ml λz hz=>?_),.non⟩
   ·rw[aR λw'=>by subst w';rw[a2] at hb';cases hb'];exact s2 _ _ w
   ·exact(fN a6 z (g2 z hz)).mono (aY s2)
  ·cases hd'
def zO(i:Nat):FE:=λρ=>(vb i ρ).bind λks=>if ks.length<64/\ ∀k∈ks,k≠[] then some (.lst ((bj bu ks).map de)) else none
theorem Gu(i:Nat)(hcm:X.calm=true)(hm:X.mg "sorted"=none)(hN:X.N[i]? =some y:=by rfl)(hv':xG X.env.scope y:=by first|exact P7 rfl|exact Pi (P7 rfl)|exact Pi (Pi rfl))(hd:(y==("__debug__":Str))=false:=by decide)
 (hcd:(y==("__classdict__":Str))=false:=by decide) (hg:Gl X "sorted":=by rfl) (hv:PF "sorted"=some (.builtin "sorted"):=by kernel_rfl)
 (he:N8 [.Name y py] X.env=(false,eval (.Name y py) X.env)::N8 [] X.env:=by rfl) (hpl:(Ql pos (N8 [] X.env)).any (·.1)=false:=by rfl):DP X c .n (.Call (.Name "sorted" p) [.Name y py] [] pos) (zO i):=λhid ρ=>
 PE.imp (qQ (uT hcm) hg hm hv (eQ (pv i hN hv' hd hcd) iU he) (by decide) (by decide) he hpl) λσ H Q hq_=>by
  obtain⟨sr,d,hd,q⟩:=hq_;obtain⟨ks,e0,hd⟩:=Oa.mp hd;split at hd
  ·rename_i hz
   cases hd;obtain⟨a,xs,a1,a2,a3,a4,a5,a6⟩:=sr.setT e0;have ll:=a5.length_eq;rw[NK] at ll;refine⟨.ref a,a1,a,xs,rfl,a4,λz hz=>sW (fN a6 z hz),by omega,λz hz'=>hz.2 _ (a5.mem_iff.mp (Vw hz')),λl zs' hl hm hk=>q _ _ (bf hl _) (gw hl (Same.refl _) ?_)⟩;have:(bj bu ks).map de=Eu zs':=by
    rw[<-iM a5,<-hk,N6];rfl
   rw[this];exact ml λz hz=>fN a6 z (hm z hz)
  ·cases hd
end
def Do:FS:=λ_=>.no
theorem CF {X:Cx}{c:Ct}{k:Kd}{st:Stmt}:DS X c k st Do:=λρ ah s σ H D I ⟨hid,sr,q⟩=>q.elim
def iR(i:Nat):Stmt:=SQ.main.body.getD i (.Pass ⟨0,0,0,0⟩)
structure Bt(mg:Str->Option NG):Prop where
 b_abs:mg "abs"=none
 b_all:mg "all"=none
 b_any:mg "any"=none
 b_enumerate:mg "enumerate"=none
 b_len:mg "len"=none
 b_list:mg "list"=none
 b_max:mg "max"=none
 b_min:mg "min"=none
 b_range:mg "range"=none
 b_set:mg "set"=none
 b_sorted:mg "sorted"=none
 b_tuple:mg "tuple"=none
theorem Mn:(["order","number"]:List Str).Nodup:=by decide+kernel
theorem Me:(["size","start","end","further"]:List Str).Nodup:=by decide+kernel
theorem Kr:(["stand","a","b","rows","column","row"]:List Str).Nodup:=by decide+kernel
theorem MX:(["stand","a","b","bars","heights","bar"]:List Str).Nodup:=by decide+kernel
theorem Kx:(["square","stand","a","b","rings","crosses","marked","column","row"]:List Str).Nodup:=by decide+kernel
theorem K4:(["square","stand","bars","a","b"]:List Str).Nodup:=by decide+kernel
theorem Fv:(["square","crowd","stand","a","b","end"]:List Str).Nodup:=by decide+kernel
theorem MH:(["square","rings","crosses","ring"]:List Str).Nodup:=by decide+kernel
theorem Mg:(["square","c","rings","crosses","one","other","between","row"]:List Str).Nodup:=by decide+kernel
theorem Kv:(["square","columns","rows","column","row"]:List Str).Nodup:=by decide+kernel
theorem Kp:(["square","stand","a","b","column","bend","sides","turns","rows","straight","row"]:List Str).Nodup:=by decide+kernel
theorem LE:(["square","stand","a","b","column","bend","sides","turns","rows","straight","other"]:List Str).Nodup:=by decide+kernel
theorem HG:(["square","c","crowd","other","turns","right","left","stand","end"]:List Str).Nodup:=by decide+kernel
theorem Hr:(["order","half","place","number"]:List Str).Nodup:=by decide+kernel
theorem Ak:(["ones","others","right","up","x","y"]:List Str).Nodup:=by decide+kernel
theorem LJ:(["_law_bag_here","_law_n","_law_c","_law_ways","_law_four","_law_pairs_of_rows","_law_left","_law_right","_law_rest_rings","_law_rest_crosses","?_law_k","_law_d","_law_rings","_law_crosses","_law_k"]:List Str).Nodup:=by decide+kernel
theorem HH:(["_law_bag_here","_law_n","_law_c","_law_ways","_law_four","_law_pairs_of_rows","_law_left","_law_right","_law_rest_rings","_law_rest_crosses","_law_k","_law_d","_law_rings","_law_crosses","_law_row"]:List Str).Nodup:=by decide+kernel
theorem HD:(["_law_square","_law_r","_law_crowd","_law_upright","_law_stand"]:List Str).Nodup:=by decide+kernel
theorem La:(["_law_script","_law_at","_law_bag_here","_law_n","_law_upright","_law_r","_law_square","_law_other","_law_stand","_law_there","_law_home","_law_one"]:List Str).Nodup:=by decide+kernel
section
variable {P:OI}{w:OT}{K:NU}{mg:Str->Option NG}{base:Heap}
abbrev gS:Stmt:=iR 1
abbrev eS:Stmt:=iR 2
abbrev gB:Stmt:=iR 3
abbrev h9:Stmt:=iR 5
abbrev jF:Stmt:=iR 6
abbrev oy:Stmt:=iR 7
abbrev lw:Stmt:=iR 8
abbrev pW:Stmt:=iR 9
abbrev n9:Stmt:=iR 10
abbrev lA:Stmt:=iR 11
abbrev nL:Stmt:=iR 12
abbrev jq:Stmt:=iR 13
abbrev ii:Stmt:=iR 15
abbrev qR:Stmt:=iR 16
abbrev lz:Stmt:=iR 21
abbrev gI:Stmt:=iR 23
abbrev pT:Stmt:=iR 25
abbrev iV:Stmt:=iR 26
abbrev eY:Stmt:=iR 27
abbrev gr:Stmt:=iR 28
abbrev ou:Stmt:=iR 30
abbrev lO:Stmt:=iR 31
abbrev f9:Stmt:=iR 32
abbrev je:Stmt:=iR 33
abbrev nK:Stmt:=iR 34
abbrev kf:Stmt:=iR 35
abbrev Ew:Stmt:=iR 36
abbrev j4:Stmt:=iR 38
abbrev up:Stmt:=iR 39
abbrev l4:Stmt:=iR 40
abbrev tv:Stmt:=iR 41
abbrev yQ:Stmt:=iR 42
abbrev gq:Stmt:=iR 43
abbrev lq:Stmt:=iR 45
abbrev nR:Stmt:=iR 46
abbrev lu:Stmt:=iR 47
abbrev km:Stmt:=iR 48
abbrev fE:Stmt:=iR 49
abbrev nZ:Stmt:=iR 50
abbrev mf:Stmt:=iR 51
theorem pc:FnScope ["order"] ["order"] (ax gS):=⟨rfl,rfl,rfl,by decide+kernel,rfl,by decide+kernel,by decide+kernel⟩
def gQ:FS:=
 aW (ak jc (aa (bM 1 (eD (aa (ak cS (aa (ai 0) (aj))) (aj))) (gN 1) (bT) (aw mP (ai 0) (ai 1))) (aj)))
def b9:List D->Option D:=dP .s 1 gQ
theorem qT(B:Bt mg)(F:Df K mg "order_tipped" gS ["order"]):Cl P w K mg base 1 "order_tipped" ["order"] (cb K .s 1 b9):=by
 refine aP (k:=0) F pc (by decide) rfl λ_ cdv A outer s H hid E hr=>?_
 exact(az (aM (gk dE j5 B.b_tuple (aO (gd (N':=["order","number"]) rfl (bz (NP rfl)) (DIp.b (c8 B.b_range (ae (aU be fm B.b_len (aO (af 0) bx) (hv:=by kernel_rfl)) ao))) (λ_ _ _ _=>(au 1 Mn)) (λ_ _ _ _=>bS) (λ_ _ _ _=>(oQ hr.units (af 0) (af 1)))) bx) (hv:=by kernel_rfl))))
theorem sc_order_exchanged:FnScope ["order","one","other","numbers"] ["order","one","other"] (ax eS):=⟨rfl,rfl,rfl,by decide+kernel,rfl,by decide+kernel,by decide+kernel⟩
def mT:FS:=
 aC (gH 3 (ak qM (aa (ai 0) (aj))))
 (aC (cy (gT 2 (cQ (cT 3 (ai 1)) (cQ (cT 3 (ai 2)) (gU)))) (pu (cz (aa (aw bo (ai 0) (ai 2)) (aa (aw bo (ai 0) (ai 1)) (aj))))))
 (aW (ak jc (aa (eB 3) (aj)))))
def bF:List D->Option D:=dP .s 4 mT
theorem nz(B:Bt mg)(F:Df K mg "order_exchanged" eS ["order","one","other"]):Cl P w K mg base 1 "order_exchanged" ["order","one","other"] (cb K .s 3 bF):=by
 refine aP (k:=0) F sc_order_exchanged (by decide) rfl λ_ cdv A outer s H hid E hr=>?_
 exact(ar (jD 3 sc_order_exchanged.nd (gk ny zx B.b_list (aO (af 0) bx) (hv:=by kernel_rfl)))
  (ar (p6 (DP.ef (cD (ae (a7 aI aX (af 0) (af 2) (λ_ _=>rfl)) (ae (a7 aI aX (af 0) (af 1) (λ_ _=>rfl)) ao)))) (zj (n:=2) rfl (mW (jg 3 (af 1)) (mW (jg 3 (af 2)) Ah))))
  (az (aM (gk dE j5 B.b_tuple (aO (fu 3) bx) (hv:=by kernel_rfl))))))
theorem sc_order_rounds:FnScope ["order","rounds","start","places"] ["order"] (ax gB):=⟨rfl,rfl,rfl,by decide+kernel,rfl,by decide+kernel,by decide+kernel⟩
def qP:FS:=
 aC (gH 1 (cq (aj)))
 (aC (jn (cN (eD (aa (ak cS (aa (ai 0) (aj))) (aj)))) (gN 2) (aC (gH 3 (cq (aa (ai 2) (aj))))
 (aC (u0 (bQ (aw l9 (aw bo (ai 0) (aw bo (eB 3) (kS (aD (.int 1))))) (ai 2))) (cu (aQ 3 1 ic (cN (aa (aw bo (ai 0) (aw bo (eB 3) (kS (aD (.int 1))))) (aj))))) 16)
 (fB (bQ (aw pJ (ak sv (aa (eB 3) (aj))) (ai 2))) ((λρ=>(cu (aQ 1 1 ic (cN (aa (ai 3) (aj))))) (Bx 3 ρ))) (skip)))))
 (w8 1))
def gJ:List D->Option D:=dP .n 4 qP
theorem p5(B:Bt mg)(F:Df K mg "order_rounds" gB ["order"]):Cl P w K mg base 1 "order_rounds" ["order"] (cb K .n 1 gJ):=by
 refine aP (k:=0) F sc_order_rounds (by decide) rfl λ_ cdv A outer s H hid E hr=>?_
 exact(ar (jD 1 sc_order_rounds.nd (dA ao))
  (ar (lZ Qb rfl (DIp.e (c8 B.b_range (ae (aU be fm B.b_len (aO (af 0) bx) (hv:=by kernel_rfl)) ao))) (au 2 sc_order_rounds.nd) (ar (jD 3 sc_order_rounds.nd (dA (ae (af 2) ao)))
  (ar (xf 16 Qb (bX (jC hr.units) m7 (a7 aI aX (af 0) (a7 aI aX (fu 3) (m9 av) (λ_ _=>rfl)) (λ_ _=>rfl)) (af 2) (cL _)) (az (ja (kN 3 iA eC Qj Qk (DA.gf (ae (a7 aI aX (af 0) (a7 aI aX (fu 3) (m9 av) (λ_ _=>rfl)) (λ_ _=>rfl)) ao))))))
  (az (eU (bX (lF hr.units) qa (aU (Bg rfl) G7 B.b_min (aO (fu 3) bx) (hv:=by kernel_rfl)) (af 2) (cL _)) (az (JR 3 (ja (kN 1 iA eC Qj Qk (DA.gf (ae (af 3) ao)))))) cj)))))
  (az (uI 1))))
theorem qj:FnScope ["size","start","end"] ["size","start","end"] (ax h9):=⟨rfl,rfl,rfl,by decide+kernel,rfl,by decide+kernel,by decide+kernel⟩
def rP:FS:=
 aW (bM 1 (eD (aa (aw cB (aw gV (ai 2) (ai 1)) (ai 0)) (aj))) (gN 3) (bT) (aw cB (aw bP (ai 1) (ai 3)) (ai 0)))
def dC:List D->Option D:=dP .n 3 rP
theorem rJ(B:Bt mg)(F:Df K mg "places_from" h9 ["size","start","end"]):Cl P w K mg base 1 "places_from" ["size","start","end"] (cb K .n 3 dC):=by
 refine aP (k:=0) F qj (by decide) rfl λ_ cdv A outer s H hid E hr=>?_
 exact(az (aM (gd (N':=["size","start","end","further"]) rfl (bz (NP rfl)) (DIp.b (c8 B.b_range (ae (gG (jt (af 2) (af 1)) (af 0)) ao))) (λ_ _ _ _=>(au 3 Me)) (λ_ _ _ _=>bS) (λ_ _ _ _=>(gG (cJ (af 1) (af 3)) (af 0))))))
theorem rF:FnScope ["stand","a","b"] ["stand","a","b"] (ax jF):=⟨rfl,rfl,rfl,by decide+kernel,rfl,by decide+kernel,by decide+kernel⟩
def tq:FS:=
 aW (ak (nF 3 dC) (aa (ak cS (aa (ai 0) (aj))) (aa (ai 1) (aa (ai 2) (aj)))))
def cr:List D->Option D:=dP .n 3 tq
theorem t9(B:Bt mg)(F:Df K mg "columns_of" jF ["stand","a","b"])(cV:Cl P w K mg base 1 "places_from" ["size","start","end"] (cb K .n 3 dC)):Cl P w K mg base 2 "columns_of" ["stand","a","b"] (cb K .n 3 cr):=by
 refine aP (k:=1) F rF (by decide) rfl λ_ cdv A outer s H hid E hr=>?_
 exact(az (aM (aK cV (hr.mono (by decide)) (ae (aU be fm B.b_len (aO (af 0) bx) (hv:=by kernel_rfl)) (ae (af 1) (ae (af 2) ao))))))
theorem xK:FnScope ["stand","a","b"] ["stand","a","b"] (ax oy):=⟨rfl,rfl,rfl,by decide+kernel,rfl,by decide+kernel,by decide+kernel⟩
def BX:FS:=
 aW (ak (nF 3 dC) (aa (ak cS (aa (ai 0) (aj))) (aa (aw bo (ai 0) (ai 1)) (aa (aw bo (ai 0) (ai 2)) (aj)))))
def eG:List D->Option D:=dP .n 3 BX
theorem Bf(B:Bt mg)(F:Df K mg "rows_of" oy ["stand","a","b"])(cV:Cl P w K mg base 1 "places_from" ["size","start","end"] (cb K .n 3 dC)):Cl P w K mg base 2 "rows_of" ["stand","a","b"] (cb K .n 3 eG):=by
 refine aP (k:=1) F xK (by decide) rfl λ_ cdv A outer s H hid E hr=>?_
 exact(az (aM (aK cV (hr.mono (by decide)) (ae (aU be fm B.b_len (aO (af 0) bx) (hv:=by kernel_rfl)) (ae (a7 aI aX (af 0) (af 1) (λ_ _=>rfl)) (ae (a7 aI aX (af 0) (af 2) (λ_ _=>rfl)) ao))))))
theorem sc_cells_of:FnScope ["stand","a","b","rows"] ["stand","a","b"] (ax lw):=⟨rfl,rfl,rfl,by decide+kernel,rfl,by decide+kernel,by decide+kernel⟩
def yg:FS:=
 aC (a8 3 (ak (nF 3 eG) (aa (ai 0) (aa (ai 1) (aa (ai 2) (aj))))))
 (aW (ak cO (aa (kl 2 (gK (ak (nF 3 cr) (aa (ai 0) (aa (ai 1) (aa (ai 2) (aj)))))) (gN 4) (bT) (gK (ai 3)) (gN 5) (bT) (cz (aa (ai 4) (aa (ai 5) (aj))))) (aj))))
def lP:List D->Option D:=dP .n 4 yg
theorem yH(B:Bt mg)(F:Df K mg "cells_of" lw ["stand","a","b"])(dv:Cl P w K mg base 2 "rows_of" ["stand","a","b"] (cb K .n 3 eG))(bW:Cl P w K mg base 2 "columns_of" ["stand","a","b"] (cb K .n 3 cr)):Cl P w K mg base 3 "cells_of" ["stand","a","b"] (cb K .n 3 lP):=by
 refine aP (k:=2) F sc_cells_of (by decide) rfl λ_ cdv A outer s H hid E hr=>?_
 exact(ar (aZ 3 sc_cells_of.nd (DP.toS (aK dv (hr.mono (by decide)) (ae (af 0) (ae (af 1) (ae (af 2) ao))))))
  (az (aM (aU fS ir B.b_sorted (aO (iN (N':=["stand","a","b","rows","column","row"]) rfl 5 (bz (NP rfl)) (xT (NP rfl)) (bz (NP rfl)) (DIp.b (eW (DP.toS (aK bW (hr.mono (by decide)) (ae (af 0) (ae (af 1) (ae (af 2) ao))))))) (λ_ _ _ _=>(au 4 Kr)) (λ_ _ _ _=>bS) (λ_ _ _ _=>(eW (af 3))) (λ_ _ _ _=>(au 5 Kr)) (λ_ _ _ _=>bS) (λ_ _ _ _=>(cD (ae (af 4) (ae (af 5) ao))))) bx) (hv:=by kernel_rfl)))))
theorem AV:FnScope ["stand","a","b"] ["stand","a","b"] (ax pW):=⟨rfl,rfl,rfl,by decide+kernel,rfl,by decide+kernel,by decide+kernel⟩
def C3:FS:=
 aW (ak (nF 3 bF) (aa (ai 0) (aa (ai 1) (aa (ai 2) (aj)))))
def cR:List D->Option D:=dP .s 3 C3
theorem E1(B:Bt mg)(F:Df K mg "behind" pW ["stand","a","b"])(bI:Cl P w K mg base 1 "order_exchanged" ["order","one","other"] (cb K .s 3 bF)):Cl P w K mg base 2 "behind" ["stand","a","b"] (cb K .s 3 cR):=by
 refine aP (k:=1) F AV (by decide) rfl λ_ cdv A outer s H hid E hr=>?_
 exact(az (aM (aK bI (hr.mono (by decide)) (ae (af 0) (ae (af 1) (ae (af 2) ao))))))
theorem sc_is_bare:FnScope ["stand","a","b","bars","heights"] ["stand","a","b"] (ax n9):=⟨rfl,rfl,rfl,by decide+kernel,rfl,by decide+kernel,by decide+kernel⟩
def BN:FS:=
 aC (a8 3 (ft (ak (nF 3 cr) (aa (ai 0) (aa (ai 1) (aa (ai 2) (aj))))) (jQ (aD (.int 1))) nH))
 (aC (a8 4 (ft (ak (nF 3 eG) (aa (ai 0) (aa (ai 1) (aa (ai 2) (aj))))) (jQ (aD (.int 1))) nH))
 (aW (Av (jj (bQ (ak vS (aa (bM 1 (gK (ai 3)) (gN 5) (bT) (aw (kR false) (aw bo (ai 0) (ai 5)) (ai 4))) (aj))))))))
def gj:List D->Option D:=dP .s 5 BN
theorem Bb(B:Bt mg)(F:Df K mg "is_bare" n9 ["stand","a","b"])(bW:Cl P w K mg base 2 "columns_of" ["stand","a","b"] (cb K .n 3 cr))(dv:Cl P w K mg base 2 "rows_of" ["stand","a","b"] (cb K .n 3 eG)):Cl P w K mg base 3 "is_bare" ["stand","a","b"] (cb K .s 3 gj):=by
 refine aP (k:=2) F sc_is_bare (by decide) rfl λ_ cdv A outer s H hid E hr=>?_
 exact(ar (aZ 3 sc_is_bare.nd (DP.toS (h8 (aK bW (hr.mono (by decide)) (ae (af 0) (ae (af 1) (ae (af 2) ao)))) (cY av) eN)))
  (ar (aZ 4 sc_is_bare.nd (DP.toS (h8 (aK dv (hr.mono (by decide)) (ae (af 0) (ae (af 1) (ae (af 2) ao)))) (cY av) eN)))
  (az (aM (yr (aU (pV rfl) x6 B.b_any (aO (gd (N':=["stand","a","b","bars","heights","bar"]) rfl (bz (NP rfl)) (DIp.b (eW (af 3))) (λ_ _ _ _=>(au 5 MX)) (λ_ _ _ _=>bS) (λ_ _ _ _=>(qE (l7 hr.units) (nw false) (a7 aI aX (af 0) (af 5) (λ_ _=>rfl)) (af 4) (by with_unfolding_all rfl)))) bx) (hv:=by kernel_rfl)))))))
theorem sc_is_clear:FnScope ["square","stand","a","b","rings","crosses","marked"] ["square","stand","a","b"] (ax lA):=⟨rfl,rfl,rfl,by decide+kernel,rfl,by decide+kernel,by decide+kernel⟩
def ye:FS:=
 aC (cy (gT 2 (cQ (gN 4) (cQ (gN 5) (gU)))) (pu (ai 0)))
 (aC (a8 6 (bM 2 (gK (ak (nF 3 lP) (aa (ai 1) (aa (ai 2) (aa (ai 3) (aj)))))) (gT 2 (cQ (gN 7) (cQ (gN 8) (gU)))) (bT) (aw (kR false) (ai 8) (cz (aa (aw bo (ai 4) (ai 7)) (aa (aw bo (ai 5) (ai 7)) (aj)))))))
 (aW (Av (jj (bQ (ak vS (aa (ai 6) (aj))))))))
def lY:List D->Option D:=dP .s 7 ye
theorem xl(B:Bt mg)(F:Df K mg "is_clear" lA ["square","stand","a","b"])(lW:Cl P w K mg base 3 "cells_of" ["stand","a","b"] (cb K .n 3 lP)):Cl P w K mg base 4 "is_clear" ["square","stand","a","b"] (cb K .s 4 lY):=by
 refine aP (k:=3) F sc_is_clear (by decide) rfl λ_ cdv A outer s H hid E hr=>?_
 exact(ar (fj (DP.ef (af 0)) (cw (n:=2) rfl (aG (au 4 sc_is_clear.nd) (aG (au 5 sc_is_clear.nd) bV))))
  (ar (tI 6 (N':=["square","stand","a","b","rings","crosses","marked","column","row"]) rfl sc_is_clear.nd (qf (b6 (bz (NP rfl)) (b6 (bz (NP rfl)) iF))) (DIp.b (eW (DP.toS (aK lW (hr.mono (by decide)) (ae (af 1) (ae (af 2) (ae (af 3) ao))))))) (λ_ _ _ _=>(cw (n:=2) rfl (aG (au 7 Kx) (aG (au 8 Kx) bV)))) (λ_ _ _ _=>bS) (λ_ _ _ _=>(qE (l7 hr.units) (nw false) (af 8) (cD (ae (a7 aI aX (af 4) (af 7) (λ_ _=>rfl)) (ae (a7 aI aX (af 5) (af 7) (λ_ _=>rfl)) ao))) (by with_unfolding_all rfl))))
  (az (aM (yr (aU (pV rfl) x6 B.b_any (aO (af 6) bx) (hv:=by kernel_rfl)))))))
theorem yp:FnScope ["square","stand","a","b"] ["square","stand","a","b"] (ax nL):=⟨rfl,rfl,rfl,by decide+kernel,rfl,by decide+kernel,by decide+kernel⟩
def AZ:FS:=
 aW (Av (gW (bQ (ak (nF 3 gj) (aa (ai 1) (aa (ai 2) (aa (ai 3) (aj)))))) (bQ (ak (nF 4 lY) (aa (ai 0) (aa (ai 1) (aa (ai 2) (aa (ai 3) (aj)))))))))
def oF:List D->Option D:=dP .s 4 AZ
theorem Bp(B:Bt mg)(F:Df K mg "is_step" nL ["square","stand","a","b"])(gl:Cl P w K mg base 3 "is_bare" ["stand","a","b"] (cb K .s 3 gj))(l5:Cl P w K mg base 4 "is_clear" ["square","stand","a","b"] (cb K .s 4 lY)):Cl P w K mg base 5 "is_step" ["square","stand","a","b"] (cb K .s 4 oF):=by
 refine aP (k:=4) F yp (by decide) rfl λ_ cdv A outer s H hid E hr=>?_
 exact(az (aM (EN (aK gl (hr.mono (by decide)) (ae (af 1) (ae (af 2) (ae (af 3) ao)))) (Di (aK l5 (hr.mono (by decide)) (ae (af 0) (ae (af 1) (ae (af 2) (ae (af 3) ao)))))))))
theorem sc_steps_from:FnScope ["square","stand","bars"] ["square","stand"] (ax jq):=⟨rfl,rfl,rfl,by decide+kernel,rfl,by decide+kernel,by decide+kernel⟩
def uE:FS:=
 aC (a8 2 (G1 (ak cS (aa (ai 1) (aj)))))
 (aW (kl 2 (gK (ai 2)) (gN 3) (bT) (gK (ai 2)) (gN 4) (gW (bQ (aw l9 (ai 3) (ai 4))) (fA (ak (nF 4 oF) (aa (ai 0) (aa (ai 1) (aa (ai 3) (aa (ai 4) (aj)))))))) (cz (aa (ai 3) (aa (ai 4) (aa (ak (nF 3 cR) (aa (ai 1) (aa (ai 3) (aa (ai 4) (aj))))) (aj)))))))
def jz:List D->Option D:=dP .n 3 uE
theorem uf(B:Bt mg)(F:Df K mg "steps_from" jq ["square","stand"])(gA:Cl P w K mg base 2 "behind" ["stand","a","b"] (cb K .s 3 cR))(og:Cl P w K mg base 5 "is_step" ["square","stand","a","b"] (cb K .s 4 oF)):Cl P w K mg base 6 "steps_from" ["square","stand"] (cb K .n 2 jz):=by
 refine aP (k:=5) F sc_steps_from (by decide) rfl λ_ cdv A outer s H hid E hr=>?_
 exact(ar (aZ 2 sc_steps_from.nd (DP.toS (kX rfl B.b_list B.b_range (aU be fm B.b_len (aO (af 1) bx) (hv:=by kernel_rfl)))))
  (az (aM (iN (N':=["square","stand","bars","a","b"]) rfl 4 (bz (NP rfl)) (xT (NP rfl)) (bz (NP rfl)) (DIp.b (eW (af 2))) (λ_ _ _ _=>(au 3 K4)) (λ_ _ _ _=>bS) (λ_ _ _ _=>(eW (af 2))) (λ_ _ _ _=>(au 4 K4)) (λ_ _ _ _=>(jy (DW.dt (uQ (bX (jC hr.units) m7 (af 3) (af 4) (cL _)) (ph (jE (aK og (hr.mono (by decide)) (ae (af 0) (ae (af 1) (ae (af 3) (ae (af 4) ao))))))))))) (λ_ _ _ _=>(cD (ae (af 3) (ae (af 4) (ae (aK gA (hr.mono (by decide)) (ae (af 1) (ae (af 3) (ae (af 4) ao)))) ao)))))))))
theorem sc_oddly_often:FnScope ["stands","odd","stand"] ["stands"] (ax ii):=⟨rfl,rfl,rfl,by decide+kernel,rfl,by decide+kernel,by decide+kernel⟩
def rj:FS:=
 aC (CI 1)
 (aC (jn (cN (cX (ai 0))) (gN 2) (fB (AR 1 (ai 2)) (cu (rm kc 1 (ai 2))) (cu (rm jZ 1 (ai 2)))))
 (aW (zO 1)))
def cA:List D->Option D:=dP .n 3 rj
theorem rD(B:Bt mg)(F:Df K mg "oddly_often" ii ["stands"]):Cl P w K mg base 1 "oddly_often" ["stands"] (cb K .n 1 cA):=by
 refine aP (k:=0) F sc_oddly_often (by decide) rfl λ_ cdv A outer s H hid E hr=>?_
 exact(ar (Gs 1 sc_oddly_often.nd B.b_set)
  (ar (lZ Qb rfl (DIp.e (cZ (af 0))) (au 2 sc_oddly_often.nd) (az (eU (GX 1 (B7 hr) (af 2)) (az (ja (Hf 1 (B7 hr) (af 2)))) (az (ja (GT 1 (B7 hr) (af 2)))))))
  (az (aM (Gu 1 rfl B.b_sorted)))))
theorem Br:FnScope ["square","crowd"] ["square","crowd"] (ax qR):=⟨rfl,rfl,rfl,by decide+kernel,rfl,by decide+kernel,by decide+kernel⟩
def pP:FS:=
 aW (ak (nF 1 cA) (aa (kl 4 (cX (ai 1)) (gN 2) (bT) (cX (ak (nF 2 jz) (aa (ai 0) (aa (ai 2) (aj))))) (gT 3 (cQ (gN 3) (cQ (gN 4) (cQ (gN 5) (gU))))) (bT) (ai 5)) (aj)))
def dJ:List D->Option D:=dP .n 2 pP
theorem Fd(B:Bt mg)(F:Df K mg "border" qR ["square","crowd"])(cW:Cl P w K mg base 1 "oddly_often" ["stands"] (cb K .n 1 cA))(jk:Cl P w K mg base 6 "steps_from" ["square","stand"] (cb K .n 2 jz)):Cl P w K mg base 7 "border" ["square","crowd"] (cb K .n 2 dJ):=by
 refine aP (k:=6) F Br (by decide) rfl λ_ cdv A outer s H hid E hr=>?_
 exact(az (aM (aK cW (hr.mono (by decide)) (ae (DP.toS (iN (N':=["square","crowd","stand","a","b","end"]) rfl 3 (bz (NP rfl)) (xT (NP rfl)) (qf (b6 (bz (NP rfl)) (b6 (bz (NP rfl)) (b6 (bz (NP rfl)) iF)))) (DIp.b (cZ (af 1))) (λ_ _ _ _=>(au 2 Fv)) (λ_ _ _ _=>bS) (λ_ _ _ _=>(cZ (DP.toS (aK jk (hr.mono (by decide)) (ae (af 0) (ae (af 2) ao)))))) (λ_ _ _ _=>(cw (n:=3) rfl (aG (au 3 Fv) (aG (au 4 Fv) (aG (au 5 Fv) bV))))) (λ_ _ _ _=>bS) (λ_ _ _ _=>(af 5)))) ao))))
theorem sc_lines_of:FnScope ["square","rings","crosses"] ["square"] (ax lz):=⟨rfl,rfl,rfl,by decide+kernel,rfl,by decide+kernel,by decide+kernel⟩
def yK:FS:=
 aC (cy (gT 2 (cQ (gN 1) (cQ (gN 2) (gU)))) (pu (ai 0)))
 (aW (ak (nF 1 gJ) (aa (bM 1 (wj (ai 1)) (gN 3) (bT) (aw mP (ai 2) (ai 3))) (aj))))
def jo:List D->Option D:=dP .n 3 yK
theorem xZ(B:Bt mg)(F:Df K mg "lines_of" lz ["square"])(gz:Cl P w K mg base 1 "order_rounds" ["order"] (cb K .n 1 gJ)):Cl P w K mg base 2 "lines_of" ["square"] (cb K .n 1 jo):=by
 refine aP (k:=1) F sc_lines_of (by decide) rfl λ_ cdv A outer s H hid E hr=>?_
 exact(ar (fj (DP.ef (af 0)) (cw (n:=2) rfl (aG (au 1 sc_lines_of.nd) (aG (au 2 sc_lines_of.nd) bV))))
  (az (aM (aK gz (hr.mono (by decide)) (ae (DP.toS (gd (N':=["square","rings","crosses","ring"]) rfl (bz (NP rfl)) (DIp.b (AL (af 1))) (λ_ _ _ _=>(au 3 MH)) (λ_ _ _ _=>bS) (λ_ _ _ _=>(oQ hr.units (af 2) (af 3))))) ao)))))
theorem o7:FnScope ["at","one","other"] ["at","one","other"] (ax gI):=⟨rfl,rfl,rfl,by decide+kernel,rfl,by decide+kernel,by decide+kernel⟩
def gP:FS:=
 aW (Ei Cg Cg (ak lg (aa (ai 1) (aa (ai 2) (aj)))) (ai 0) (ak vf (aa (ai 1) (aa (ai 2) (aj)))))
def b7:List D->Option D:=dP .s 3 gP
theorem pR(B:Bt mg)(F:Df K mg "lies_between" gI ["at","one","other"]):Cl P w K mg base 1 "lies_between" ["at","one","other"] (cb K .s 3 b7):=by
 refine aP (k:=0) F o7 (by decide) rfl λ_ cdv A outer s H hid E hr=>?_
 exact(az (aM (K9 wt wt oP oP (aU (r8 rfl) AH B.b_min (aO (af 1) (aO (af 2) bx)) (hv:=by kernel_rfl)) (af 0) (aU (AY rfl) FX B.b_max (aO (af 1) (aO (af 2) bx)) (hv:=by kernel_rfl)))))
theorem sc_tipped:FnScope ["square","rings","crosses"] ["square"] (ax pT):=⟨rfl,rfl,rfl,by decide+kernel,rfl,by decide+kernel,by decide+kernel⟩
def pQ:FS:=
 aC (cy (gT 2 (cQ (gN 1) (cQ (gN 2) (gU)))) (pu (ai 0)))
 (aW (cz (aa (ak (nF 1 b9) (aa (ai 1) (aj))) (aa (ak (nF 1 b9) (aa (ai 2) (aj))) (aj)))))
def dn:List D->Option D:=dP .s 3 pQ
theorem DL(B:Bt mg)(F:Df K mg "tipped" pT ["square"])(cf:Cl P w K mg base 1 "order_tipped" ["order"] (cb K .s 1 b9)):Cl P w K mg base 2 "tipped" ["square"] (cb K .s 1 dn):=by
 refine aP (k:=1) F sc_tipped (by decide) rfl λ_ cdv A outer s H hid E hr=>?_
 exact(ar (fj (DP.ef (af 0)) (cw (n:=2) rfl (aG (au 1 sc_tipped.nd) (aG (au 2 sc_tipped.nd) bV))))
  (az (aM (cD (ae (aK cf (hr.mono (by decide)) (ae (af 1) ao)) (ae (aK cf (hr.mono (by decide)) (ae (af 2) ao)) ao))))))
theorem sc_may_change:FnScope ["square","c","rings","crosses","one","other","between"] ["square","c"] (ax iV):=⟨rfl,rfl,rfl,by decide+kernel,rfl,by decide+kernel,by decide+kernel⟩
def uo:FS:=
 aC (cy (gT 2 (cQ (gN 2) (cQ (gN 3) (gU)))) (pu (ai 0)))
 (aC (fB (jj (bQ (Ei J8 J8 (aD (.int 0)) (ai 1) (aw gV (ak cS (aa (ai 2) (aj))) (aD (.int 2)))))) (aW (aD (.bl false))) (skip))
 (aC (a8 4 (cz (aa (aw bo (ai 2) (ai 1)) (aa (aw bo (ai 3) (ai 1)) (aj)))))
 (aC (a8 5 (cz (aa (aw bo (ai 2) (aw bP (ai 1) (aD (.int 1)))) (aa (aw bo (ai 3) (aw bP (ai 1) (aD (.int 1)))) (aj)))))
 (aC (fB (EK (bQ (aw (kR false) (aw bo (ai 4) (aD (.int 0))) (ai 5))) (bQ (aw (kR false) (aw bo (ai 4) (aD (.int 1))) (ai 5)))) (aW (aD (.bl false))) (skip))
 (aC (a8 6 (bM 1 (cX (ai 5)) (gN 7) (fA (ak (nF 3 b7) (aa (ai 7) (aa (aw bo (ai 4) (aD (.int 0))) (aa (aw bo (ai 4) (aD (.int 1))) (aj)))))) (ai 7)))
 (aW (aw l9 (ak cS (aa (ai 6) (aj))) (aD (.int 1)))))))))
def gh:List D->Option D:=dP .s 7 uo
theorem tz(B:Bt mg)(F:Df K mg "may_change" iV ["square","c"])(cG:Cl P w K mg base 1 "lies_between" ["at","one","other"] (cb K .s 3 b7)):Cl P w K mg base 2 "may_change" ["square","c"] (cb K .s 2 gh):=by
 refine aP (k:=1) F sc_may_change (by decide) rfl λ_ cdv A outer s H hid E hr=>?_
 exact(ar (fj (DP.ef (af 0)) (cw (n:=2) rfl (aG (au 2 sc_may_change.nd) (aG (au 3 sc_may_change.nd) bV))))
  (ar (eU (um (K5 Ho Ho oP oP av (af 1) (jt (aU be fm B.b_len (aO (af 2) bx) (hv:=by kernel_rfl)) av))) (az (aM nE)) cj)
  (ar (aZ 4 sc_may_change.nd (cD (ae (a7 aI aX (af 2) (af 1) (λ_ _=>rfl)) (ae (a7 aI aX (af 3) (af 1) (λ_ _=>rfl)) ao))))
  (ar (aZ 5 sc_may_change.nd (cD (ae (a7 aI aX (af 2) (cJ (af 1) av) (λ_ _=>rfl)) (ae (a7 aI aX (af 3) (cJ (af 1) av) (λ_ _=>rfl)) ao))))
  (ar (eU (DW.dt (HB (bX (l7 hr.units) (nw false) (a7 aI aX (af 4) av (λ_ _=>rfl)) (af 5) (by with_unfolding_all rfl)) (Dc (bX (l7 hr.units) (nw false) (a7 aI aX (af 4) av (λ_ _=>rfl)) (af 5) (by with_unfolding_all rfl))))) (az (aM nE)) cj)
  (ar (tI 6 (N':=["square","c","rings","crosses","one","other","between","row"]) rfl sc_may_change.nd (bz (NP rfl)) (DIp.b (cZ (af 5))) (λ_ _ _ _=>(au 7 Mg)) (λ_ _ _ _=>(jy (jE (aK cG (hr.mono (by decide)) (ae (af 7) (ae (a7 aI aX (af 4) av (λ_ _=>rfl)) (ae (a7 aI aX (af 4) av (λ_ _=>rfl)) ao))))))) (λ_ _ _ _=>(af 7)))
  (az (aM (qE (jC hr.units) m7 (aU be fm B.b_len (aO (af 6) bx) (hv:=by kernel_rfl)) av (cL _))))))))))
theorem sc_columns_changed:FnScope ["square","c","rings","crosses"] ["square","c"] (ax eY):=⟨rfl,rfl,rfl,by decide+kernel,rfl,by decide+kernel,by decide+kernel⟩
def eP:FS:=
 aC (fB (jj (fA (ak (nF 2 gh) (aa (ai 0) (aa (ai 1) (aj)))))) (Do) (skip))
 (aC (cy (gT 2 (cQ (gN 2) (cQ (gN 3) (gU)))) (pu (ai 0)))
 (aW (cz (aa (ak (nF 3 bF) (aa (ai 2) (aa (ai 1) (aa (aw bP (ai 1) (aD (.int 1))) (aj))))) (aa (ak (nF 3 bF) (aa (ai 3) (aa (ai 1) (aa (aw bP (ai 1) (aD (.int 1))) (aj))))) (aj))))))
def bH:List D->Option D:=dP .s 4 eP
theorem mZ(B:Bt mg)(F:Df K mg "columns_changed" eY ["square","c"])(jx:Cl P w K mg base 2 "may_change" ["square","c"] (cb K .s 2 gh))(bI:Cl P w K mg base 1 "order_exchanged" ["order","one","other"] (cb K .s 3 bF)):Cl P w K mg base 3 "columns_changed" ["square","c"] (cb K .s 2 bH):=by
 refine aP (k:=2) F sc_columns_changed (by decide) rfl λ_ cdv A outer s H hid E hr=>?_
 exact(ar (eU (um (jE (aK jx (hr.mono (by decide)) (ae (af 0) (ae (af 1) ao))))) (az CF) cj)
  (ar (fj (DP.ef (af 0)) (cw (n:=2) rfl (aG (au 2 sc_columns_changed.nd) (aG (au 3 sc_columns_changed.nd) bV))))
  (az (aM (cD (ae (aK bI (hr.mono (by decide)) (ae (af 2) (ae (af 1) (ae (cJ (af 1) av) ao)))) (ae (aK bI (hr.mono (by decide)) (ae (af 3) (ae (af 1) (ae (cJ (af 1) av) ao)))) ao)))))))
theorem o5:FnScope ["square","r"] ["square","r"] (ax gr):=⟨rfl,rfl,rfl,by decide+kernel,rfl,by decide+kernel,by decide+kernel⟩
def gR:FS:=
 aW (ak (nF 1 dn) (aa (ak (nF 2 bH) (aa (ak (nF 1 dn) (aa (ai 0) (aj))) (aa (ai 1) (aj)))) (aj)))
def dh:List D->Option D:=dP .s 2 gR
theorem qF(B:Bt mg)(F:Df K mg "rows_changed" gr ["square","r"])(dG:Cl P w K mg base 2 "tipped" ["square"] (cb K .s 1 dn))(bR:Cl P w K mg base 3 "columns_changed" ["square","c"] (cb K .s 2 bH)):Cl P w K mg base 4 "rows_changed" ["square","r"] (cb K .s 2 dh):=by
 refine aP (k:=3) F o5 (by decide) rfl λ_ cdv A outer s H hid E hr=>?_
 exact(az (aM (aK dG (hr.mono (by decide)) (ae (aK bR (hr.mono (by decide)) (ae (aK dG (hr.mono (by decide)) (ae (af 0) ao)) (ae (af 1) ao))) ao))))
theorem sc_turn_of:FnScope ["square","c","rings","crosses","low","high"] ["square","c"] (ax ou):=⟨rfl,rfl,rfl,by decide+kernel,rfl,by decide+kernel,by decide+kernel⟩
def nO:FS:=
 aC (cy (gT 2 (cQ (gN 2) (cQ (gN 3) (gU)))) (pu (ai 0)))
 (aC (cy (gL 2 (cQ (gN 4) (cQ (gN 5) (gU)))) (pu (ak cO (aa (cz (aa (aw bo (ai 2) (ai 1)) (aa (aw bo (ai 3) (ai 1)) (aj)))) (aj)))))
 (aW (Hn (fA (ak (nF 3 b7) (aa (aw bo (ai 2) (aw bP (ai 1) (aD (.int 1)))) (aa (ai 4) (aa (ai 5) (aj)))))) (ai 4) (ai 5))))
def iJ:List D->Option D:=dP .s 6 nO
theorem BJ(B:Bt mg)(F:Df K mg "turn_of" ou ["square","c"])(cG:Cl P w K mg base 1 "lies_between" ["at","one","other"] (cb K .s 3 b7)):Cl P w K mg base 2 "turn_of" ["square","c"] (cb K .s 2 iJ):=by
 refine aP (k:=1) F sc_turn_of (by decide) rfl λ_ cdv A outer s H hid E hr=>?_
 exact(ar (fj (DP.ef (af 0)) (cw (n:=2) rfl (aG (au 2 sc_turn_of.nd) (aG (au 3 sc_turn_of.nd) bV))))
  (ar (fj (DE.toS (DP.ef (aU fS ir B.b_sorted (aO (cD (ae (a7 aI aX (af 2) (af 1) (λ_ _=>rfl)) (ae (a7 aI aX (af 3) (af 1) (λ_ _=>rfl)) ao))) bx) (hv:=by kernel_rfl)))) (z8 (n:=2) rfl (aG (au 4 sc_turn_of.nd) (aG (au 5 sc_turn_of.nd) bV))))
  (az (aM (Ks (by decide) (jE (aK cG (hr.mono (by decide)) (ae (a7 aI aX (af 2) (cJ (af 1) av) (λ_ _=>rfl)) (ae (af 4) (ae (af 5) ao))))) (af 4) (af 5))))))
theorem sc_has_mark:FnScope ["square","column","row","rings","crosses"] ["square","column","row"] (ax lO):=⟨rfl,rfl,rfl,by decide+kernel,rfl,by decide+kernel,by decide+kernel⟩
def lE:FS:=
 aC (cy (gT 2 (cQ (gN 3) (cQ (gN 4) (gU)))) (pu (ai 0)))
 (aW (aw (kR false) (ai 2) (cz (aa (aw bo (ai 3) (ai 1)) (aa (aw bo (ai 4) (ai 1)) (aj))))))
def cP:List D->Option D:=dP .s 5 lE
theorem yR(B:Bt mg)(F:Df K mg "has_mark" lO ["square","column","row"]):Cl P w K mg base 1 "has_mark" ["square","column","row"] (cb K .s 3 cP):=by
 refine aP (k:=0) F sc_has_mark (by decide) rfl λ_ cdv A outer s H hid E hr=>?_
 exact(ar (fj (DP.ef (af 0)) (cw (n:=2) rfl (aG (au 3 sc_has_mark.nd) (aG (au 4 sc_has_mark.nd) bV))))
  (az (aM (qE (l7 hr.units) (nw false) (af 2) (cD (ae (a7 aI aX (af 3) (af 1) (λ_ _=>rfl)) (ae (a7 aI aX (af 4) (af 1) (λ_ _=>rfl)) ao))) (by with_unfolding_all rfl)))))
theorem om:FnScope ["square","columns","rows"] ["square","columns","rows"] (ax f9):=⟨rfl,rfl,rfl,by decide+kernel,rfl,by decide+kernel,by decide+kernel⟩
def fY:FS:=
 aW (Av (jj (bQ (ak vS (aa (kl 2 (cX (ai 1)) (gN 3) (bT) (cX (ai 2)) (gN 4) (bT) (ak (nF 3 cP) (aa (ai 0) (aa (ai 3) (aa (ai 4) (aj)))))) (aj))))))
def cU:List D->Option D:=dP .s 3 fY
theorem oZ(B:Bt mg)(F:Df K mg "columns_clear" f9 ["square","columns","rows"])(fz:Cl P w K mg base 1 "has_mark" ["square","column","row"] (cb K .s 3 cP)):Cl P w K mg base 2 "columns_clear" ["square","columns","rows"] (cb K .s 3 cU):=by
 refine aP (k:=1) F om (by decide) rfl λ_ cdv A outer s H hid E hr=>?_
 exact(az (aM (yr (aU (pV rfl) x6 B.b_any (aO (iN (N':=["square","columns","rows","column","row"]) rfl 4 (bz (NP rfl)) (xT (NP rfl)) (bz (NP rfl)) (DIp.b (cZ (af 1))) (λ_ _ _ _=>(au 3 Kv)) (λ_ _ _ _=>bS) (λ_ _ _ _=>(cZ (af 2))) (λ_ _ _ _=>(au 4 Kv)) (λ_ _ _ _=>bS) (λ_ _ _ _=>(aK fz (hr.mono (by decide)) (ae (af 0) (ae (af 3) (ae (af 4) ao)))))) bx) (hv:=by kernel_rfl)))))
theorem sc_bend_clear:FnScope ["column","rows","bend","sides","turns","at","row"] ["column","rows","bend"] (ax je):=⟨rfl,rfl,rfl,by decide+kernel,rfl,by decide+kernel,by decide+kernel⟩
def iZ:FS:=
 aC (cy (gT 2 (cQ (gN 3) (cQ (gN 4) (gU)))) (pu (ai 2)))
 (aC (a8 5 (aD (.int 0)))
 (aC (jn (cN (cX (ai 1))) (gN 6) (aC (fB (fA (ak (nF 3 cP) (aa (aw bo (ai 3) (ai 5)) (aa (ai 0) (aa (ai 6) (aj)))))) (aW (aD (.bl false))) (skip))
 (fB (bQ (aw (kR false) (ai 6) (ai 4))) (Dn bP 5 (aD (.int 1))) (skip))))
 (aW (aD (.bl true)))))
def fh:List D->Option D:=dP .s 7 iZ
theorem tY(B:Bt mg)(F:Df K mg "bend_clear" je ["column","rows","bend"])(fz:Cl P w K mg base 1 "has_mark" ["square","column","row"] (cb K .s 3 cP)):Cl P w K mg base 2 "bend_clear" ["column","rows","bend"] (cb K .s 3 fh):=by
 refine aP (k:=1) F sc_bend_clear (by decide) rfl λ_ cdv A outer s H hid E hr=>?_
 exact(ar (fj (DP.ef (af 2)) (cw (n:=2) rfl (aG (au 3 sc_bend_clear.nd) (aG (au 4 sc_bend_clear.nd) bV))))
  (ar (aZ 5 sc_bend_clear.nd av)
  (ar (lZ Qb rfl (DIp.e (cZ (af 1))) (au 6 sc_bend_clear.nd) (ar (eU (jE (aK fz (hr.mono (by decide)) (ae (a7 aI aX (af 3) (af 5) (λ_ _=>rfl)) (ae (af 0) (ae (af 6) ao))))) (az (aM nE)) cj)
  (az (eU (bX (l7 hr.units) (nw false) (af 6) (af 4) (by with_unfolding_all rfl)) (az (Bv 5 sc_bend_clear.nd av Jv)) cj))))
  (az (aM nE)))))
theorem sc_is_bent:FnScope ["square","stand","a","b","column","bend","sides","turns","rows","straight"] ["square","stand","a","b","column","bend"] (ax nK):=⟨rfl,rfl,rfl,by decide+kernel,rfl,by decide+kernel,by decide+kernel⟩
def nV:FS:=
 aC (cy (gT 2 (cQ (gN 6) (cQ (gN 7) (gU)))) (pu (ai 5)))
 (aC (a8 8 (ak (nF 3 eG) (aa (ai 1) (aa (ai 2) (aa (ai 3) (aj))))))
 (aC (fB (EK (bQ (aw l9 (bM 1 (cX (ai 8)) (gN 10) (bQ (aw (kR false) (ai 10) (ai 7))) (ai 10)) (ai 7))) (jj (fA (ak (nF 3 gj) (aa (ai 1) (aa (ai 2) (aa (ai 3) (aj)))))))) (aW (aD (.bl false))) (skip))
 (aC (a8 9 (bM 1 (cX (ak (nF 3 cr) (aa (ai 1) (aa (ai 2) (aa (ai 3) (aj)))))) (gN 10) (bQ (aw l9 (ai 10) (ai 4))) (ai 10)))
 (aW (Av (gW (bQ (ak (nF 3 cU) (aa (ai 0) (aa (ai 9) (aa (ai 8) (aj)))))) (bQ (ak (nF 3 fh) (aa (ai 4) (aa (ai 8) (aa (ai 5) (aj))))))))))))
def cI:List D->Option D:=dP .s 10 nV
theorem BQ(B:Bt mg)(F:Df K mg "is_bent" nK ["square","stand","a","b","column","bend"])(dv:Cl P w K mg base 2 "rows_of" ["stand","a","b"] (cb K .n 3 eG))(fW:Cl P w K mg base 2 "columns_clear" ["square","columns","rows"] (cb K .s 3 cU))(ji:Cl P w K mg base 2 "bend_clear" ["column","rows","bend"] (cb K .s 3 fh))(gl:Cl P w K mg base 3 "is_bare" ["stand","a","b"] (cb K .s 3 gj))(bW:Cl P w K mg base 2 "columns_of" ["stand","a","b"] (cb K .n 3 cr)):Cl P w K mg base 4 "is_bent" ["square","stand","a","b","column","bend"] (cb K .s 6 cI):=by
 refine aP (k:=3) F sc_is_bent (by decide) rfl λ_ cdv A outer s H hid E hr=>?_
 exact(ar (fj (DP.ef (af 5)) (cw (n:=2) rfl (aG (au 6 sc_is_bent.nd) (aG (au 7 sc_is_bent.nd) bV))))
  (ar (aZ 8 sc_is_bent.nd (DP.toS (aK dv (hr.mono (by decide)) (ae (af 1) (ae (af 2) (ae (af 3) ao))))))
  (ar (eU (DW.dt (HB (bX (jC hr.units) m7 (gd (N':=["square","stand","a","b","column","bend","sides","turns","rows","straight","row"]) rfl (bz (NP rfl)) (DIp.b (cZ (af 8))) (λ_ _ _ _=>(au 10 Kp)) (λ_ _ _ _=>(jy (bX (l7 hr.units) (nw false) (af 10) (af 7) (by with_unfolding_all rfl)))) (λ_ _ _ _=>(af 10))) (af 7) (cL _)) (Dc (um (jE (aK gl (hr.mono (by decide)) (ae (af 1) (ae (af 2) (ae (af 3) ao))))))))) (az (aM nE)) cj)
  (ar (tI 9 (N':=["square","stand","a","b","column","bend","sides","turns","rows","straight","other"]) rfl sc_is_bent.nd (bz (NP rfl)) (DIp.b (cZ (DP.toS (aK bW (hr.mono (by decide)) (ae (af 1) (ae (af 2) (ae (af 3) ao))))))) (λ_ _ _ _=>(au 10 LE)) (λ_ _ _ _=>(jy (bX (jC hr.units) m7 (af 10) (af 4) (cL _)))) (λ_ _ _ _=>(af 10)))
  (az (aM (EN (aK fW (hr.mono (by decide)) (ae (af 0) (ae (af 9) (ae (af 8) ao)))) (Di (aK ji (hr.mono (by decide)) (ae (af 4) (ae (af 8) (ae (af 5) ao))))))))))))
theorem sc_ends_from:FnScope ["square","c","stand","right","left","i","ends","j"] ["square","c","stand","right","left"] (ax kf):=⟨rfl,rfl,rfl,by decide+kernel,rfl,by decide+kernel,by decide+kernel⟩
def kh:FS:=
 aC (a8 5 (aw bP (ai 1) (aD (.int 1))))
 (aC (gH 6 (cq (aj)))
 (aC (jn (cN (eD (aa (ak cS (aa (ai 2) (aj))) (aj)))) (gN 7) (aC (fB (gW (bQ (aw l9 (ai 7) (ai 5))) (fA (ak (nF 6 cI) (aa (ai 0) (aa (ai 2) (aa (ai 5) (aa (ai 7) (aa (ai 5) (aa (ai 3) (aj)))))))))) (cu (aQ 6 1 ic (cN (aa (ak (nF 3 cR) (aa (ai 2) (aa (ai 5) (aa (ai 7) (aj))))) (aj))))) (skip))
 (fB (gW (bQ (aw l9 (ai 7) (ai 5))) (fA (ak (nF 6 cI) (aa (ai 0) (aa (ai 2) (aa (ai 7) (aa (ai 5) (aa (ai 1) (aa (ai 4) (aj)))))))))) (cu (aQ 6 1 ic (cN (aa (ak (nF 3 cR) (aa (ai 2) (aa (ai 7) (aa (ai 5) (aj))))) (aj))))) (skip))))
 (w8 6)))
def eK:List D->Option D:=dP .n 8 kh
theorem wu(B:Bt mg)(F:Df K mg "ends_from" kf ["square","c","stand","right","left"])(ku:Cl P w K mg base 4 "is_bent" ["square","stand","a","b","column","bend"] (cb K .s 6 cI))(gA:Cl P w K mg base 2 "behind" ["stand","a","b"] (cb K .s 3 cR)):Cl P w K mg base 5 "ends_from" ["square","c","stand","right","left"] (cb K .n 5 eK):=by
 refine aP (k:=4) F sc_ends_from (by decide) rfl λ_ cdv A outer s H hid E hr=>?_
 exact(ar (aZ 5 sc_ends_from.nd (cJ (af 1) av))
  (ar (jD 6 sc_ends_from.nd (dA ao))
  (ar (lZ Qb rfl (DIp.e (c8 B.b_range (ae (aU be fm B.b_len (aO (af 2) bx) (hv:=by kernel_rfl)) ao))) (au 7 sc_ends_from.nd) (ar (eU (DW.dt (uQ (bX (jC hr.units) m7 (af 7) (af 5) (cL _)) (ph (jE (aK ku (hr.mono (by decide)) (ae (af 0) (ae (af 2) (ae (af 5) (ae (af 7) (ae (af 5) (ae (af 3) ao))))))))))) (az (ja (kN 6 iA eC Qj Qk (DA.gf (ae (aK gA (hr.mono (by decide)) (ae (af 2) (ae (af 5) (ae (af 7) ao)))) ao))))) cj)
  (az (eU (DW.dt (uQ (bX (jC hr.units) m7 (af 7) (af 5) (cL _)) (ph (jE (aK ku (hr.mono (by decide)) (ae (af 0) (ae (af 2) (ae (af 7) (ae (af 5) (ae (af 1) (ae (af 4) ao))))))))))) (az (ja (kN 6 iA eC Qj Qk (DA.gf (ae (aK gA (hr.mono (by decide)) (ae (af 2) (ae (af 7) (ae (af 5) ao)))) ao))))) cj))))
  (az (uI 6)))))
theorem sc_led:FnScope ["square","c","crowd","other","turns","right","left"] ["square","c","crowd"] (ax Ew):=⟨rfl,rfl,rfl,by decide+kernel,rfl,by decide+kernel,by decide+kernel⟩
def E7:FS:=
 aC (a8 3 (ak (nF 2 bH) (aa (ai 0) (aa (ai 1) (aj)))))
 (aC (a8 4 (cq (aa (ak (nF 2 iJ) (aa (ai 0) (aa (ai 1) (aj)))) (aj))))
 (aC (cy (gT 2 (cQ (gN 5) (cQ (gN 6) (gU)))) (pu (cz (aa (cz (aa (cq (aa (ai 0) (aa (ai 3) (aj)))) (aa (ai 4) (aj)))) (aa (cz (aa (cq (aa (ai 3) (aa (ai 0) (aj)))) (aa (ai 4) (aj)))) (aj))))))
 (aW (ak (nF 1 cA) (aa (kl 2 (cX (ai 2)) (gN 7) (bT) (cX (ak (nF 5 eK) (aa (ai 0) (aa (ai 1) (aa (ai 7) (aa (ai 5) (aa (ai 6) (aj)))))))) (gN 8) (bT) (ai 8)) (aj))))))
def vz:List D->Option D:=dP .n 7 E7
theorem K6(B:Bt mg)(F:Df K mg "led" Ew ["square","c","crowd"])(bR:Cl P w K mg base 3 "columns_changed" ["square","c"] (cb K .s 2 bH))(cW:Cl P w K mg base 1 "oddly_often" ["stands"] (cb K .n 1 cA))(oq:Cl P w K mg base 2 "turn_of" ["square","c"] (cb K .s 2 iJ))(kj:Cl P w K mg base 5 "ends_from" ["square","c","stand","right","left"] (cb K .n 5 eK)):Cl P w K mg base 6 "led" ["square","c","crowd"] (cb K .n 3 vz):=by
 refine aP (k:=5) F sc_led (by decide) rfl λ_ cdv A outer s H hid E hr=>?_
 exact(QSs.to (qv (QS.of (aZ 3 sc_led.nd (aK bR (hr.mono (by decide)) (ae (af 0) (ae (af 1) ao)))))
  (qv (QS.of (aZ 4 sc_led.nd (DP.toS (dA (ae (aK oq (hr.mono (by decide)) (ae (af 0) (ae (af 1) ao))) ao)))))
  (qv (QS.of (fj (DP.ef (cD (ae (cD (ae (DP.toS (dA (ae (af 0) (ae (af 3) ao)))) (ae (af 4) ao))) (ae (cD (ae (DP.toS (dA (ae (af 3) (ae (af 0) ao)))) (ae (af 4) ao))) ao yU) yU))) (cw (n:=2) rfl (aG (au 5 sc_led.nd) (aG (au 6 sc_led.nd) bV)))))
  (G2 (QS.of (aM (aK cW (hr.mono (by decide)) (ae (DP.toS (iN (N':=["square","c","crowd","other","turns","right","left","stand","end"]) rfl 8 (bz (NP rfl)) (xT (NP rfl)) (bz (NP rfl)) (DIp.b (cZ (af 2))) (λ_ _ _ _=>(au 7 HG)) (λ_ _ _ _=>bS) (λ_ _ _ _=>(cZ (DP.toS (aK kj (hr.mono (by decide)) (ae (af 0) (ae (af 1) (ae (af 7) (ae (af 5) (ae (af 6) ao))))))))) (λ_ _ _ _=>(au 8 HG)) (λ_ _ _ _=>bS) (λ_ _ _ _=>(af 8)))) ao)))))))))
theorem tD:FnScope ["order","half"] ["order","half"] (ax j4):=⟨rfl,rfl,rfl,by decide+kernel,rfl,by decide+kernel,by decide+kernel⟩
def j8:FS:=
 aW (bM 2 (Ig (ai 0)) (gT 2 (cQ (gN 2) (cQ (gN 3) (gU)))) (bT) (cz (aa (aw bP (aw dZ (aD (.int 2)) (ai 2)) (ai 1)) (aa (aw bP (aw dZ (aD (.int 2)) (ai 3)) (ai 1)) (aj)))))
def fT:List D->Option D:=dP .n 2 j8
theorem v4(B:Bt mg)(F:Df K mg "points_of" j4 ["order","half"]):Cl P w K mg base 1 "points_of" ["order","half"] (cb K .n 2 fT):=by
 refine aP (k:=0) F tD (by decide) rfl λ_ cdv A outer s H hid E hr=>?_
 exact(az (aM (gd (N':=["order","half","place","number"]) rfl (qf (b6 (bz (NP rfl)) (b6 (bz (NP rfl)) iF))) (DIp.b (Ev (af 0) B.b_enumerate)) (λ_ _ _ _=>(cw (n:=2) rfl (aG (au 2 Hr) (aG (au 3 Hr) bV)))) (λ_ _ _ _=>bS) (λ_ _ _ _=>(cD (ae (cJ (j7 av (af 2)) (af 1)) (ae (cJ (j7 av (af 3)) (af 1)) ao)))))))
theorem Cm:FnScope ["ones","others"] ["ones","others"] (ax up):=⟨rfl,rfl,rfl,by decide+kernel,rfl,by decide+kernel,by decide+kernel⟩
def uu:FS:=
 aW (ak cS (aa (kl 4 (gK (ai 0)) (gT 2 (cQ (gN 2) (cQ (gN 3) (gU)))) (bT) (gK (ai 1)) (gT 2 (cQ (gN 4) (cQ (gN 5) (gU)))) (gW (bQ (aw Cg (ai 2) (ai 4))) (bQ (aw Cg (ai 3) (ai 5)))) (aD (.bl true))) (aj)))
def gX:List D->Option D:=dP .s 2 uu
theorem F3(B:Bt mg)(F:Df K mg "pairs" up ["ones","others"]):Cl P w K mg base 1 "pairs" ["ones","others"] (cb K .s 2 gX):=by
 refine aP (k:=0) F Cm (by decide) rfl λ_ cdv A outer s H hid E hr=>?_
 exact(az (aM (aU be fm B.b_len (aO (iN (N':=["ones","others","right","up","x","y"]) rfl 4 (qf (b6 (bz (NP rfl)) (b6 (bz (NP rfl)) iF))) (L5 (xc (xT (NP rfl)) (xc (xT (NP rfl)) Fz))) (qf (b6 (bz (NP rfl)) (b6 (bz (NP rfl)) iF))) (DIp.b (eW (af 0))) (λ_ _ _ _=>(cw (n:=2) rfl (aG (au 2 Ak) (aG (au 3 Ak) bV)))) (λ_ _ _ _=>bS) (λ_ _ _ _=>(eW (af 1))) (λ_ _ _ _=>(cw (n:=2) rfl (aG (au 4 Ak) (aG (au 5 Ak) bV)))) (λ_ _ _ _=>(jy (DW.dt (uQ (bX wt oP (af 2) (af 4) (cL _)) (ph (bX wt oP (af 3) (af 5) (cL _))))))) (λ_ _ _ _=>nE)) bx) (hv:=by kernel_rfl))))
theorem sc_grade_by:FnScope ["marks","stand","rooks","points"] ["marks","stand"] (ax l4):=⟨rfl,rfl,rfl,by decide+kernel,rfl,by decide+kernel,by decide+kernel⟩
def lM:FS:=
 aC (a8 2 (ak (nF 2 fT) (aa (ai 1) (aa (aD (.int 0)) (aj)))))
 (aC (a8 3 (ak (nF 2 fT) (aa (ai 0) (aa (aD (.int 1)) (aj)))))
 (aW (aw bP (aw bP (aw gV (aw gV (ak (nF 2 gX) (aa (ai 2) (aa (ai 2) (aj)))) (ak (nF 2 gX) (aa (ai 2) (aa (ai 3) (aj))))) (ak (nF 2 gX) (aa (ai 3) (aa (ai 2) (aj))))) (ak (nF 2 gX) (aa (ai 3) (aa (ai 3) (aj))))) (aD (.int 1)))))
def dX:List D->Option D:=dP .s 4 lM
theorem xk(B:Bt mg)(F:Df K mg "grade_by" l4 ["marks","stand"])(g7:Cl P w K mg base 1 "points_of" ["order","half"] (cb K .n 2 fT))(kM:Cl P w K mg base 1 "pairs" ["ones","others"] (cb K .s 2 gX)):Cl P w K mg base 2 "grade_by" ["marks","stand"] (cb K .s 2 dX):=by
 refine aP (k:=1) F sc_grade_by (by decide) rfl λ_ cdv A outer s H hid E hr=>?_
 exact(ar (aZ 2 sc_grade_by.nd (DP.toS (aK g7 (hr.mono (by decide)) (ae (af 1) (ae av ao)))))
  (ar (aZ 3 sc_grade_by.nd (DP.toS (aK g7 (hr.mono (by decide)) (ae (af 0) (ae av ao)))))
  (az (aM (cJ (cJ (jt (jt (aK kM (hr.mono (by decide)) (ae (af 2) (ae (af 2) ao))) (aK kM (hr.mono (by decide)) (ae (af 2) (ae (af 3) ao)))) (aK kM (hr.mono (by decide)) (ae (af 3) (ae (af 2) ao)))) (aK kM (hr.mono (by decide)) (ae (af 3) (ae (af 3) ao)))) av)))))
theorem Cw:FnScope ["square","stand"] ["square","stand"] (ax tv):=⟨rfl,rfl,rfl,by decide+kernel,rfl,by decide+kernel,by decide+kernel⟩
def tH:FS:=
 aW (ak (nF 2 dX) (aa (aw bo (ai 0) (aD (.int 0))) (aa (ai 1) (aj))))
def gg:List D->Option D:=dP .s 2 tH
theorem GZ(B:Bt mg)(F:Df K mg "grade" tv ["square","stand"])(dN:Cl P w K mg base 2 "grade_by" ["marks","stand"] (cb K .s 2 dX)):Cl P w K mg base 3 "grade" ["square","stand"] (cb K .s 2 gg):=by
 refine aP (k:=2) F Cw (by decide) rfl λ_ cdv A outer s H hid E hr=>?_
 exact(az (aM (aK dN (hr.mono (by decide)) (ae (a7 aI aX (af 0) av (λ_ _=>rfl)) (ae (af 1) ao)))))
theorem sc_lean:FnScope ["square","stand","rings","crosses","unlike"] ["square","stand"] (ax yQ):=⟨rfl,rfl,rfl,by decide+kernel,rfl,by decide+kernel,by decide+kernel⟩
def yx:FS:=
 aC (cy (gT 2 (cQ (gN 2) (cQ (gN 3) (gU)))) (pu (ai 0)))
 (aC (a8 4 (aw gV (ak (nF 2 dX) (aa (ai 2) (aa (ai 1) (aj)))) (ak (nF 2 dX) (aa (ai 3) (aa (ai 1) (aj))))))
 (aW (aw bP (aw gV (ai 4) (ak cS (aa (ai 2) (aj)))) (ak cS (aa (ak (nF 1 jo) (aa (ai 0) (aj))) (aj))))))
def jh:List D->Option D:=dP .s 5 yx
theorem Jw(B:Bt mg)(F:Df K mg "lean" yQ ["square","stand"])(dN:Cl P w K mg base 2 "grade_by" ["marks","stand"] (cb K .s 2 dX))(lH:Cl P w K mg base 2 "lines_of" ["square"] (cb K .n 1 jo)):Cl P w K mg base 3 "lean" ["square","stand"] (cb K .s 2 jh):=by
 refine aP (k:=2) F sc_lean (by decide) rfl λ_ cdv A outer s H hid E hr=>?_
 exact(ar (fj (DP.ef (af 0)) (cw (n:=2) rfl (aG (au 2 sc_lean.nd) (aG (au 3 sc_lean.nd) bV))))
  (ar (aZ 4 sc_lean.nd (jt (aK dN (hr.mono (by decide)) (ae (af 2) (ae (af 1) ao))) (aK dN (hr.mono (by decide)) (ae (af 3) (ae (af 1) ao)))))
  (az (aM (cJ (jt (af 4) (aU be fm B.b_len (aO (af 2) bx) (hv:=by kernel_rfl))) (aU be fm B.b_len (aO (aK lH (hr.mono (by decide)) (ae (af 0) ao)) bx) (hv:=by kernel_rfl)))))))
theorem oX:FnScope ["stand"] ["stand"] (ax gq):=⟨rfl,rfl,rfl,by decide+kernel,rfl,by decide+kernel,by decide+kernel⟩
def gu:FS:=
 aW (ak (nF 1 b9) (aa (ai 0) (aj)))
def bO:List D->Option D:=dP .s 1 gu
theorem qo(B:Bt mg)(F:Df K mg "stand_tipped" gq ["stand"])(cf:Cl P w K mg base 1 "order_tipped" ["order"] (cb K .s 1 b9)):Cl P w K mg base 2 "stand_tipped" ["stand"] (cb K .s 1 bO):=by
 refine aP (k:=1) F oX (by decide) rfl λ_ cdv A outer s H hid E hr=>?_
 exact(az (aM (aK cf (hr.mono (by decide)) (ae (af 0) ao))))
theorem vR:FnScope ["_law_script","_law_k"] ["_law_script","_law_k"] (ax lq):=⟨rfl,rfl,rfl,by decide+kernel,rfl,by decide+kernel,by decide+kernel⟩
def yP:FS:=
 aC (fB (bQ (aw Cg (ai 1) (ak cS (aa (ai 0) (aj))))) (aW (aw bo (ai 0) (ai 1))) (skip))
 (aW (aD (.int 0)))
def lX:List D->Option D:=dP .s 2 yP
theorem xC(B:Bt mg)(F:Df K mg "_law_cell" lq ["_law_script","_law_k"]):Cl P w K mg base 1 "_law_cell" ["_law_script","_law_k"] (cb K .s 2 lX):=by
 refine aP (k:=0) F vR (by decide) rfl λ_ cdv A outer s H hid E hr=>?_
 exact(ar (eU (bX wt oP (af 1) (aU be fm B.b_len (aO (af 0) bx) (hv:=by kernel_rfl)) (cL _)) (az (aM (a7 aI aX (af 0) (af 1) (λ_ _=>rfl)))) cj)
  (az (aM av)))
theorem sc_law_bag:FnScope ["_law_script","_law_at","_law_cell_here","_law_mix","_law_k"] ["_law_script","_law_at"] (ax nR):=⟨rfl,rfl,rfl,by decide+kernel,rfl,by decide+kernel,by decide+kernel⟩
def Bu:FS:=
 aC (a8 2 (aw cB (ak wo (aa (ak (nF 2 lX) (aa (ai 0) (aa (ai 1) (aj)))) (aj))) (aw dZ (aw dZ (aw eX (aD (.int 10)) (aD (.int 60))) (aw eX (aD (.int 10)) (aD (.int 60)))) (aw eX (aD (.int 10)) (aD (.int 60))))))
 (aC (fB (bQ (aw LW (ai 2) (aw eX (aD (.int 10)) (aD (.int 18))))) (aW (cq (aa (ai 2) (aa (aD (.int 0)) (aj))))) (skip))
 (aC (a8 3 (aw cB (aw bP (aw bP (ai 2) (aw dZ (aD (.int 7919)) (ai 1))) (aD (.int 17))) (aD (.int 2147483647))))
 (aC (jn (cN (eD (aa (ak lg (aa (ak cS (aa (ai 0) (aj))) (aa (aD (.int 9)) (aj)))) (aj)))) (gN 4) (a8 3 (aw cB (aw bP (aw bP (aw eX (ai 3) (aD (.int 5))) (aw cB (aw bo (ai 0) (ai 4)) (aD (.int 2147483629)))) (aw dZ (aD (.int 31)) (ai 4))) (aD (.int 2147483647)))))
 (aW (cq (aa (ai 3) (aa (aD (.int 1)) (aj))))))))
def kF:List D->Option D:=dP .n 5 Bu
theorem BL(B:Bt mg)(F:Df K mg "_law_bag" nR ["_law_script","_law_at"])(lS:Cl P w K mg base 1 "_law_cell" ["_law_script","_law_k"] (cb K .s 2 lX)):Cl P w K mg base 2 "_law_bag" ["_law_script","_law_at"] (cb K .n 2 kF):=by
 refine aP (k:=1) F sc_law_bag (by decide) rfl λ_ cdv A outer s H hid E hr=>?_
 exact(ar (aZ 2 sc_law_bag.nd (gG (aU Ee Ji B.b_abs (aO (aK lS (hr.mono (by decide)) (ae (af 0) (ae (af 1) ao))) bx) (hv:=by kernel_rfl)) (j7 (j7 (nS av av) (nS av av)) (nS av av))))
  (ar (eU (bX Kh oP (af 2) (nS av av) (cL _)) (az (aM (dA (ae (af 2) (ae av ao))))) cj)
  (ar (aZ 3 sc_law_bag.nd (gG (cJ (cJ (af 2) (j7 av (af 1))) av) av))
  (ar (lZ Qb rfl (DIp.e (c8 B.b_range (ae (aU (r8 rfl) AH B.b_min (aO (aU be fm B.b_len (aO (af 0) bx) (hv:=by kernel_rfl)) (aO av bx)) (hv:=by kernel_rfl)) ao))) (au 4 sc_law_bag.nd) (az (aZ 3 sc_law_bag.nd (gG (cJ (cJ (nS (af 3) av) (gG (a7 aI aX (af 0) (af 4) (λ_ _=>rfl)) av)) (j7 av (af 4))) av))))
  (az (aM (dA (ae (af 3) (ae av ao)))))))))
theorem sc_law_take:FnScope ["_law_bag_here","_law_many","_law_digit"] ["_law_bag_here","_law_many"] (ax lu):=⟨rfl,rfl,rfl,by decide+kernel,rfl,by decide+kernel,by decide+kernel⟩
def yG:FS:=
 aC (fB (bQ (aw pJ (aw bo (eB 0) (aD (.int 1))) (aD (.int 0)))) (aC (a8 2 (aw cB (aw bo (eB 0) (aD (.int 0))) (ai 1)))
 (aC (cy (cT 0 (aD (.int 0))) (pu (aw mr (aw bo (eB 0) (aD (.int 0))) (ai 1))))
 (aW (ai 2)))) (skip))
 (aC (cy (cT 0 (aD (.int 0))) (pu (aw cB (aw bP (aw bP (aw eX (aw bo (eB 0) (aD (.int 0))) (aD (.int 5))) (aw dZ (aD (.int 48271)) (aw bo (eB 0) (aD (.int 1))))) (aD (.int 11))) (aD (.int 2147483647)))))
 (aC (cy (cT 0 (aD (.int 1))) (pu (aw bP (aw bo (eB 0) (aD (.int 1))) (aD (.int 1)))))
 (aW (aw cB (aw mr (aw cB (aw dZ (aw bo (eB 0) (aD (.int 0))) (aD (.int 69621))) (aD (.int 2147483629))) (aD (.int 8))) (ai 1)))))
def bn:List D->List D->Option (D×List D):=BZ .s 3 yG
theorem yD(B:Bt mg)(F:Df K mg "_law_take" lu ["_law_bag_here","_law_many"]):Cl P w K mg base 1 "_law_take" ["_law_bag_here","_law_many"] (zk K .s 1 bn):=by
 refine yJ (k:=0) F sc_law_take (by decide) rfl λ_ cdv A outer s H hid a E hr=>?_
 exact(ar (eU (bX (lF hr.units) qa (a7 aI aX (fu 0) av (λ_ _=>rfl)) av (cL _)) (ar (aZ 2 sc_law_take.nd (gG (a7 aI aX (fu 0) av (λ_ _=>rfl)) (af 1)))
  (ar (p6 (DP.ef (zg (a7 aI aX (fu 0) av (λ_ _=>rfl)) (af 1))) (jg 0 av))
  (az (aM (af 2))))) cj)
  (ar (p6 (DP.ef (gG (cJ (cJ (nS (a7 aI aX (fu 0) av (λ_ _=>rfl)) av) (j7 av (a7 aI aX (fu 0) av (λ_ _=>rfl)))) av) av)) (jg 0 av))
  (ar (p6 (DP.ef (cJ (a7 aI aX (fu 0) av (λ_ _=>rfl)) av)) (jg 0 av))
  (az (aM (gG (zg (gG (j7 (a7 aI aX (fu 0) av (λ_ _=>rfl)) av) av) av) (af 1)))))))
theorem sc_law_order:FnScope ["_law_bag_here","_law_n","_law_left","_law_found"] ["_law_bag_here","_law_n"] (ax km):=⟨rfl,rfl,rfl,by decide+kernel,rfl,by decide+kernel,by decide+kernel⟩
def ww:FS:=
 aC (gH 2 (G1 (ai 1)))
 (aC (gH 3 (cq (aj)))
 (aC (u0 (bQ (aw l9 (eB 2) (cq (aj)))) (cu (aQ 3 1 ic (ga (aQ 2 1 rL (ga (aQ 0 1 bn (cN (aa (ak cS (aa (eB 2) (aj))) (aj)))) (cN (aj)))) (cN (aj))))) 16)
 (w8 3)))
def bB:List D->List D->Option (D×List D):=BZ .n 4 ww
theorem wI(B:Bt mg)(F:Df K mg "_law_order" km ["_law_bag_here","_law_n"])(cC:Cl P w K mg base 1 "_law_take" ["_law_bag_here","_law_many"] (zk K .s 1 bn)):Cl P w K mg base 2 "_law_order" ["_law_bag_here","_law_n"] (zk K .n 1 bB):=by
 refine yJ (k:=1) F sc_law_order (by decide) rfl λ_ cdv A outer s H hid a E hr=>?_
 exact(ar (jD 2 sc_law_order.nd (kX rfl B.b_list B.b_range (af 1)))
  (ar (jD 3 sc_law_order.nd (dA ao))
  (ar (xf 16 Qb (bX (jC hr.units) m7 (fu 2) (dA ao) (cL _)) (az (ja (kN 3 iA eC Qj Qk (pL (kN 2 Jf Ej PySem.F.slot_list_pop PySem.F.type_list_pop (pL (mo 0 cC (hr.mono (by decide)) (DA.gf (ae (aU be fm B.b_len (aO (fu 2) bx) (hv:=by kernel_rfl)) ao))) (DA.gf ao))) (DA.gf ao))))))
  (az (uI 3)))))
theorem sc_law_neighbours:FnScope ["_law_bag_here","_law_n","_law_c","_law_ways","_law_four","_law_pairs_of_rows","_law_left","_law_right","_law_rest_rings","_law_rest_crosses","_law_k","_law_d","_law_rings","_law_crosses"] ["_law_bag_here","_law_n"] (ax fE):=⟨rfl,rfl,rfl,by decide+kernel,rfl,by decide+kernel,by decide+kernel⟩
def iB:FS:=
 aC (ki 2 (aQ 0 1 bn (cN (aa (aw gV (ai 1) (aD (.int 1))) (aj)))))
 (aC (ki 3 (eZ 1 (cN (eD (aa (aD (.int 4)) (aj)))) (gN 14) (bT) (aQ 0 1 bn (cN (aa (aD (.int 2)) (aj))))))
 (aC (ki 4 (jS cO (ga (CO (aQ 0 1 bB (cN (aa (ai 1) (aj)))) nH (jQ (aD (.int 4)))) (cN (aj)))))
 (aC (a8 4 (aw gE (ft (ai 4) (jQ (aw bo (ai 3) (aD (.int 0)))) nH) (ft (ai 4) nH (jQ (aw bo (ai 3) (aD (.int 0)))))))
 (aC (a8 5 (cq (aa (ft (ai 4) nH (jQ (aD (.int 2)))) (aa (ft (ai 4) (jQ (aD (.int 2))) nH) (aj)))))
 (aC (fB (bQ (aw pJ (aw bo (ai 3) (aD (.int 1))) (aD (.int 1)))) (a8 5 (rH (ai 5) (jQ (kS (aD (.int 1)))))) (skip))
 (aC (cy (gL 2 (cQ (gN 6) (cQ (gN 7) (gU)))) (pu (ai 5)))
 (aC (fB (bQ (aw pJ (aw bo (ai 3) (aD (.int 2))) (aD (.int 1)))) (a8 6 (rH (ai 6) (jQ (kS (aD (.int 1)))))) (skip))
 (aC (fB (bQ (aw pJ (aw bo (ai 3) (aD (.int 3))) (aD (.int 1)))) (a8 7 (rH (ai 7) (jQ (kS (aD (.int 1)))))) (skip))
 (aC (ki 8 (eZ 1 (yI (aQ 0 1 bB (cN (aa (ai 1) (aj))))) (gN 14) (bQ (aw (kR true) (ai 14) (cz (aa (aw bo (ai 6) (aD (.int 0))) (aa (aw bo (ai 7) (aD (.int 0))) (aj)))))) (pu (ai 14))))
 (aC (Ds 9 (eZ 1 (yI (aQ 0 1 bB (cN (aa (ai 1) (aj))))) (gN 14) (bQ (aw (kR true) (ai 14) (cz (aa (aw bo (ai 6) (aD (.int 1))) (aa (aw bo (ai 7) (aD (.int 1))) (aj)))))) (pu (ai 14))))
 (aC (jn (cN (eD (aa (aw gV (ai 1) (aD (.int 2))) (aj)))) (gN 10) (aC (a8 11 (aw cB (aw bP (ai 10) (aD (.int 1))) (aw gV (ai 1) (aD (.int 2)))))
 (fB (bQ (aw pJ (aw bo (eB 9) (ai 10)) (aw bo (ai 8) (ai 10)))) (cy (gT 2 (cQ (cT 9 (ai 10)) (cQ (cT 9 (ai 11)) (gU)))) (pu (cz (aa (aw bo (eB 9) (ai 11)) (aa (aw bo (eB 9) (ai 10)) (aj)))))) (skip))))
 (aC (a8 12 (aw gE (aw gE (ft (ai 8) nH (jQ (ai 2))) (cq (aa (aw bo (ai 6) (aD (.int 0))) (aa (aw bo (ai 7) (aD (.int 0))) (aj))))) (ft (ai 8) (jQ (ai 2)) nH)))
 (aC (a8 13 (aw gE (aw gE (ft (eB 9) nH (jQ (ai 2))) (cq (aa (aw bo (ai 6) (aD (.int 1))) (aa (aw bo (ai 7) (aD (.int 1))) (aj))))) (ft (eB 9) (jQ (ai 2)) nH)))
 (aW (cz (aa (cz (aa (ak jc (aa (ai 12) (aj))) (aa (ak jc (aa (ai 13) (aj))) (aj)))) (aa (ai 2) (aj))))))))))))))))))
def bZ:List D->List D->Option (D×List D):=BZ .s 14 iB
theorem oD(B:Bt mg)(F:Df K mg "_law_neighbours" fE ["_law_bag_here","_law_n"])(cC:Cl P w K mg base 1 "_law_take" ["_law_bag_here","_law_many"] (zk K .s 1 bn))(cM:Cl P w K mg base 2 "_law_order" ["_law_bag_here","_law_n"] (zk K .n 1 bB)):Cl P w K mg base 3 "_law_neighbours" ["_law_bag_here","_law_n"] (zk K .s 1 bZ):=by
 refine yJ (k:=2) F sc_law_neighbours (by decide) rfl λ_ cdv A outer s H hid a E hr=>?_
 exact(ar (pD 2 sc_law_neighbours.nd (mo 0 cC (hr.mono (by decide)) (DA.gf (ae (jt (af 1) av) ao))))
  (ar (wq 3 (N':=["_law_bag_here","_law_n","_law_c","_law_ways","_law_four","_law_pairs_of_rows","_law_left","_law_right","_law_rest_rings","_law_rest_crosses","?_law_k","_law_d","_law_rings","_law_crosses","_law_k"]) rfl sc_law_neighbours.nd (bz (NP rfl)) (DIp.e (c8 B.b_range (ae av ao))) (λ_ _ _ _=>(au 14 LJ)) (λ_ _ _ _=>bS) (λ_ _ _ _=>(mo 0 cC (hr.mono (by decide)) (DA.gf (ae av ao)))))
  (ar (pD 4 sc_law_neighbours.nd (DE.toS (DJ fS ir B.b_sorted (pL (DE.toS (JK (DE.toS (mo 0 cM (hr.mono (by decide)) (DA.gf (ae (af 1) ao)))) eN (cY av))) (DA.gf ao)) (hv:=by kernel_rfl))))
  (ar (aZ 4 sc_law_neighbours.nd (DP.toS (my (h8 (af 4) (cY (a7 aI aX (af 3) av (λ_ _=>rfl))) eN) (h8 (af 4) eN (cY (a7 aI aX (af 3) av (λ_ _=>rfl)))))))
  (ar (aZ 5 sc_law_neighbours.nd (DP.toS (dA (ae (DP.toS (h8 (af 4) eN (cY av))) (ae (DP.toS (h8 (af 4) (cY av) eN)) ao)))))
  (ar (eU (bX (lF hr.units) qa (a7 aI aX (af 3) av (λ_ _=>rfl)) av (cL _)) (az (aZ 5 sc_law_neighbours.nd (DP.toS (yb (af 5) (cY (m9 av)))))) cj)
  (ar (fj (DP.ef (af 5)) (z8 (n:=2) rfl (aG (au 6 sc_law_neighbours.nd) (aG (au 7 sc_law_neighbours.nd) bV))))
  (ar (eU (bX (lF hr.units) qa (a7 aI aX (af 3) av (λ_ _=>rfl)) av (cL _)) (az (aZ 6 sc_law_neighbours.nd (DP.toS (yb (af 6) (cY (m9 av)))))) cj)
  (ar (eU (bX (lF hr.units) qa (a7 aI aX (af 3) av (λ_ _=>rfl)) av (cL _)) (az (aZ 7 sc_law_neighbours.nd (DP.toS (yb (af 7) (cY (m9 av)))))) cj)
  (ar (wq 8 (N':=["_law_bag_here","_law_n","_law_c","_law_ways","_law_four","_law_pairs_of_rows","_law_left","_law_right","_law_rest_rings","_law_rest_crosses","_law_k","_law_d","_law_rings","_law_crosses","_law_row"]) rfl sc_law_neighbours.nd (bz (NP rfl)) (Aj (DE.toS (mo 0 cM (hr.mono (by decide)) (DA.gf (ae (af 1) ao))))) (λ_ _ _ _=>(au 14 HH)) (λ_ _ _ _=>(jy (bX (sG hr.units) (nw true) (af 14) (cD (ae (a7 aI aX (af 6) av (λ_ _=>rfl)) (ae (a7 aI aX (af 7) av (λ_ _=>rfl)) ao))) (by with_unfolding_all rfl)))) (λ_ _ _ _=>(DP.ef (af 14))))
  (ar (Ec 9 (N':=["_law_bag_here","_law_n","_law_c","_law_ways","_law_four","_law_pairs_of_rows","_law_left","_law_right","_law_rest_rings","_law_rest_crosses","_law_k","_law_d","_law_rings","_law_crosses","_law_row"]) rfl sc_law_neighbours.nd (bz (NP rfl)) (Aj (DE.toS (mo 0 cM (hr.mono (by decide)) (DA.gf (ae (af 1) ao))))) (λ_ _ _ _=>(au 14 HH)) (λ_ _ _ _=>(jy (bX (sG hr.units) (nw true) (af 14) (cD (ae (a7 aI aX (af 6) av (λ_ _=>rfl)) (ae (a7 aI aX (af 7) av (λ_ _=>rfl)) ao))) (by with_unfolding_all rfl)))) (λ_ _ _ _=>(DP.ef (af 14))))
  (ar (lZ Qb rfl (DIp.e (c8 B.b_range (ae (jt (af 1) av) ao))) (au 10 sc_law_neighbours.nd) (ar (aZ 11 sc_law_neighbours.nd (gG (cJ (af 10) av) (jt (af 1) av)))
  (az (eU (bX (lF hr.units) qa (a7 aI aX (fu 9) (af 10) (λ_ _=>rfl)) (a7 aI aX (af 8) (af 10) (λ_ _=>rfl)) (cL _)) (az (p6 (DP.ef (cD (ae (a7 aI aX (fu 9) (af 11) (λ_ _=>rfl)) (ae (a7 aI aX (fu 9) (af 10) (λ_ _=>rfl)) ao)))) (zj (n:=2) rfl (mW (jg 9 (af 10)) (mW (jg 9 (af 11)) Ah))))) cj))))
  (ar (aZ 12 sc_law_neighbours.nd (DP.toS (my (my (h8 (af 8) eN (cY (af 2))) (dA (ae (a7 aI aX (af 6) av (λ_ _=>rfl)) (ae (a7 aI aX (af 7) av (λ_ _=>rfl)) ao)))) (h8 (af 8) (cY (af 2)) eN))))
  (ar (aZ 13 sc_law_neighbours.nd (DP.toS (my (my (h8 (fu 9) eN (cY (af 2))) (dA (ae (a7 aI aX (af 6) av (λ_ _=>rfl)) (ae (a7 aI aX (af 7) av (λ_ _=>rfl)) ao)))) (h8 (fu 9) (cY (af 2)) eN))))
  (az (aM (cD (ae (cD (ae (gk dE j5 B.b_tuple (aO (af 12) bx) (hv:=by kernel_rfl)) (ae (gk dE j5 B.b_tuple (aO (af 13) bx) (hv:=by kernel_rfl)) ao))) (ae (af 2) ao) yU))))))))))))))))))
theorem sc_law_led:FnScope ["_law_square","_law_r","_law_crowd","_law_upright"] ["_law_square","_law_r","_law_crowd"] (ax nZ):=⟨rfl,rfl,rfl,by decide+kernel,rfl,by decide+kernel,by decide+kernel⟩
def oI:FS:=
 aC (a8 3 (ak cO (aa (bM 1 (cX (ai 2)) (gN 4) (bT) (ak (nF 1 bO) (aa (ai 4) (aj)))) (aj))))
 (aW (ak cO (aa (bM 1 (cX (ak (nF 3 vz) (aa (ak (nF 1 dn) (aa (ai 0) (aj))) (aa (ai 1) (aa (ai 3) (aj)))))) (gN 4) (bT) (ak (nF 1 bO) (aa (ai 4) (aj)))) (aj))))
def eE:List D->Option D:=dP .n 4 oI
theorem A5(B:Bt mg)(F:Df K mg "_law_led" nZ ["_law_square","_law_r","_law_crowd"])(eO:Cl P w K mg base 2 "stand_tipped" ["stand"] (cb K .s 1 bO))(EQ:Cl P w K mg base 6 "led" ["square","c","crowd"] (cb K .n 3 vz))(dG:Cl P w K mg base 2 "tipped" ["square"] (cb K .s 1 dn)):Cl P w K mg base 7 "_law_led" ["_law_square","_law_r","_law_crowd"] (cb K .n 3 eE):=by
 refine aP (k:=6) F sc_law_led (by decide) rfl λ_ cdv A outer s H hid E hr=>?_
 exact(ar (aZ 3 sc_law_led.nd (DP.toS (aU fS ir B.b_sorted (aO (gd (N':=["_law_square","_law_r","_law_crowd","_law_upright","_law_stand"]) rfl (bz (NP rfl)) (DIp.b (cZ (af 2))) (λ_ _ _ _=>(au 4 HD)) (λ_ _ _ _=>bS) (λ_ _ _ _=>(aK eO (hr.mono (by decide)) (ae (af 4) ao)))) bx) (hv:=by kernel_rfl))))
  (az (aM (aU fS ir B.b_sorted (aO (gd (N':=["_law_square","_law_r","_law_crowd","_law_upright","_law_stand"]) rfl (bz (NP rfl)) (DIp.b (cZ (DP.toS (aK EQ (hr.mono (by decide)) (ae (aK dG (hr.mono (by decide)) (ae (af 0) ao)) (ae (af 1) (ae (af 3) ao))))))) (λ_ _ _ _=>(au 4 HD)) (λ_ _ _ _=>bS) (λ_ _ _ _=>(aK eO (hr.mono (by decide)) (ae (af 4) ao)))) bx) (hv:=by kernel_rfl)))))
theorem sc_law:FnScope ["_law_script","_law_at","_law_bag_here","_law_n","_law_upright","_law_r","_law_square","_law_other","_law_stand","_law_there","_law_home"] ["_law_script"] (ax mf):=⟨rfl,rfl,rfl,by decide+kernel,rfl,by decide+kernel,by decide+kernel⟩
def CJ:FS:=
 aC (jn (cN (eD (aa (aD (.int 2)) (aj)))) (gN 1) (aC (gH 2 (ak (nF 2 kF) (aa (ai 0) (aa (ai 1) (aj)))))
 (aC (ki 3 (xo bo (pu (cq (aa (aD (.int 4)) (aa (aD (.int 4)) (aa (aD (.int 5)) (aj)))))) (aQ 2 1 bn (cN (aa (aD (.int 3)) (aj))))))
 (aC (cy (gT 2 (cQ (gN 4) (cQ (gN 5) (gU)))) (aQ 2 1 bZ (cN (aa (ai 3) (aj)))))
 (aC (a8 6 (ak (nF 1 dn) (aa (ai 4) (aj))))
 (aC (a8 7 (ak (nF 2 dh) (aa (ai 6) (aa (ai 5) (aj)))))
 (aC (ki 8 (jS jc (ga (aQ 2 1 bB (cN (aa (ai 3) (aj)))) (cN (aj)))))
 (aC (a8 9 (ak (nF 3 eE) (aa (ai 6) (aa (ai 5) (aa (cq (aa (ai 8) (aj))) (aj))))))
 (aC (fB (bQ (aw l9 (ak (nF 2 dJ) (aa (ai 7) (aa (ak qM (aa (ai 9) (aj))) (aj)))) (ak (nF 3 eE) (aa (ai 6) (aa (ai 5) (aa (ak (nF 2 dJ) (aa (ai 6) (aa (cq (aa (ai 8) (aj))) (aj)))) (aj))))))) (aW (aD (.bl false))) (skip))
 (aC (a8 10 (cz (aa (ak (nF 2 gg) (aa (ai 6) (aa (ai 8) (aj)))) (aa (ak (nF 2 jh) (aa (ai 6) (aa (ai 8) (aj)))) (aj)))))
 (fB (jj (fA (ak Fa (aa (bM 1 (cX (ai 9)) (gN 11) (bT) (aw pJ (cz (aa (ak (nF 2 gg) (aa (ai 7) (aa (ai 11) (aj)))) (aa (ak (nF 2 jh) (aa (ai 7) (aa (ai 11) (aj)))) (aj)))) (ai 10))) (aj))))) (aW (aD (.bl false))) (skip))))))))))))
 (aW (aD (.bl true)))
def HK:List D->Option D:=dP .s 11 CJ
theorem Jg {f:Addr}{fd:QC}(B:Bt mg)(F:Fun K "law" "law" mf f fd)(oE:Cl P w K mg base 2 "_law_bag" ["_law_script","_law_at"] (cb K .n 2 kF))(fy:Cl P w K mg base 3 "_law_neighbours" ["_law_bag_here","_law_n"] (zk K .s 1 bZ))(dG:Cl P w K mg base 2 "tipped" ["square"] (cb K .s 1 dn))(gm:Cl P w K mg base 4 "rows_changed" ["square","r"] (cb K .s 2 dh))(kO:Cl P w K mg base 7 "_law_led" ["_law_square","_law_r","_law_crowd"] (cb K .n 3 eE))(cC:Cl P w K mg base 1 "_law_take" ["_law_bag_here","_law_many"] (zk K .s 1 bn))(cM:Cl P w K mg base 2 "_law_order" ["_law_bag_here","_law_n"] (zk K .n 1 bB))(mY:Cl P w K mg base 7 "border" ["square","crowd"] (cb K .n 2 dJ))(pM:Cl P w K mg base 3 "grade" ["square","stand"] (cb K .s 2 gg))(uZ:Cl P w K mg base 3 "lean" ["square","stand"] (cb K .s 2 jh)):FnOk P w K mg base u3 8 f fd ["_law_script"] (cb K .s 1 HK):=by
 refine AK (k:=7) F sc_law (by decide) λcdv A outer s H hid E hr=>?_
 exact(ar (lZ Qb rfl (DIp.e (c8 B.b_range (ae av ao))) (au 1 sc_law.nd) (ar (jD 2 sc_law.nd (aK oE (hr.mono (by decide)) (ae (af 0) (ae (af 1) ao))))
  (ar (pD 3 sc_law.nd (KC aI aX (DE.toS (DP.ef (dA (ae av (ae av (ae av ao)))))) (mo 2 cC (hr.mono (by decide)) (DA.gf (ae av ao))) (λ_ _=>rfl)))
  (ar (fj (mo 2 fy (hr.mono (by decide)) (DA.gf (ae (af 3) ao))) (cw (n:=2) rfl (aG (au 4 sc_law.nd) (aG (au 5 sc_law.nd) bV))))
  (ar (aZ 6 sc_law.nd (aK dG (hr.mono (by decide)) (ae (af 4) ao)))
  (ar (aZ 7 sc_law.nd (aK gm (hr.mono (by decide)) (ae (af 6) (ae (af 5) ao))))
  (ar (pD 8 sc_law.nd (BB dE j5 B.b_tuple (pL (DE.toS (mo 2 cM (hr.mono (by decide)) (DA.gf (ae (af 3) ao)))) (DA.gf ao)) (hv:=by kernel_rfl)))
  (ar (aZ 9 sc_law.nd (DP.toS (aK kO (hr.mono (by decide)) (ae (af 6) (ae (af 5) (ae (DP.toS (dA (ae (af 8) ao))) ao))))))
  (ar (eU (bX (jC hr.units) m7 (aK mY (hr.mono (by decide)) (ae (af 7) (ae (DP.toS (gk ny zx B.b_list (aO (af 9) bx) (hv:=by kernel_rfl))) ao))) (aK kO (hr.mono (by decide)) (ae (af 6) (ae (af 5) (ae (DP.toS (aK mY (hr.mono (by decide)) (ae (af 6) (ae (DP.toS (dA (ae (af 8) ao))) ao)))) ao)))) (cL _)) (az (aM nE)) cj)
  (ar (aZ 10 sc_law.nd (cD (ae (aK pM (hr.mono (by decide)) (ae (af 6) (ae (af 8) ao))) (ae (aK uZ (hr.mono (by decide)) (ae (af 6) (ae (af 8) ao))) ao))))
  (az (eU (um (jE (aU (CH rfl) Ja B.b_all (aO (gd (N':=["_law_script","_law_at","_law_bag_here","_law_n","_law_upright","_law_r","_law_square","_law_other","_law_stand","_law_there","_law_home","_law_one"]) rfl (bz (NP rfl)) (DIp.b (cZ (af 9))) (λ_ _ _ _=>(au 11 La)) (λ_ _ _ _=>bS) (λ_ _ _ _=>(qE (lF hr.units) qa (cD (ae (aK pM (hr.mono (by decide)) (ae (af 7) (ae (af 11) ao))) (ae (aK uZ (hr.mono (by decide)) (ae (af 7) (ae (af 11) ao))) ao))) (af 10) (cL _)))) bx) (hv:=by kernel_rfl)))) (az (aM nE)) cj))))))))))))
  (az (aM nE)))
end
def ls:List Nat->(Nat->Int)->Int
 | [],_=>0
 |x::l,f=>f x+ls l f
theorem jp(x:Nat)(l:List Nat)(f:Nat->Int):ls (x::l) f=f x+ls l f:=rfl
theorem bh {f g:Nat->Int}: ∀ {l:List Nat},(∀x∈l,f x=g x)->ls l f=ls l g
 | [],_=>rfl
 |x::l,h=>by unfold ls;rw[h x (Oe ..),bh λy hy=>h y (N3 _ hy)]
theorem hX(f g:Nat->Int): ∀l,ls l (λx=>f x+g x)=ls l f+ls l g
 | []=>rfl
 |x::l=>by simp only[jp];rw[hX f g l];omega
theorem eA(f g:Nat->Int): ∀l,ls l (λx=>f x-g x)=ls l f-ls l g
 | []=>rfl
 |x::l=>by simp only[jp];rw[eA f g l];omega
theorem nT(k:Int)(f:Nat->Int): ∀l,ls l (λx=>k*f x)=k*ls l f
 | []=>by simp[ls]
 |x::l=>by simp only[jp];rw[nT k f l,Int.mul_add]
theorem iu(k:Int): ∀l,ls l (λ_=>k)=l.length*k
 | []=>by simp[ls]
 |x::l=>by simp only[jp];rw[iu k l,On,Int.natCast_succ,Int.add_mul];omega
theorem Eb(g:Nat->Nat)(f:Nat->Int): ∀l,ls (l.map g) f=ls l (λx=>f (g x))
 | []=>rfl
 |x::l=>by rw[NS];unfold ls;rw[Eb g f l]
theorem zE {f:Nat->Int}{l m:List Nat}(h:l.Perm m):ls l f=ls m f:=by
 induction h with
 |nil=>rfl
 |cons x _ ih=>unfold ls;rw[ih]
 |swap x y l=>show f y+(f x+ls l f)=f x+(f y+ls l f);omega
 |trans _ _ h1 h2=>rw[h1,h2]
def bi(b:Bool):Int:=if b then 1 else 0
theorem oj(p:Nat->Bool)(f:Nat->Int): ∀l,ls (l.filter p) f=ls l (λx=>bi (p x)*f x)
 | []=>rfl
 |x::l=>by
  have:=oj p f l;cases h:p x
  ·rw[Q4 (by rw[h];decide)];simp only[jp];rw[this,h];simp[bi]
  ·rw[Q5 h];simp only[jp];rw[this,h];simp[bi]
theorem tG {f:Nat->Int}{l:List Nat}(h: ∀x∈l,f x=0):ls l f=0:=by
 rw[bh (g:=λ_=>0) h,iu];simp
theorem ke {l:List Nat}(nd:l.Nodup){a:Nat}(k:Int)(h:a∈l):ls l (λx=>if x=a then k else 0)=k:=by
 induction l with
 |nil=>exact absurd h (P2)
 |cons x l ih=>
  simp only[jp];rw[PQ] at nd
  by_cases e:x=a
  ·subst e;rw[if_pos rfl,tG (f:=λy=>if y=x then k else 0) λy hy=>if_neg λe:y=x=>nd.1 (e▸hy)];omega
  ·rw[if_neg e,ih nd.2 ((Oc.mp h).resolve_left (OX e))];omega
theorem Io {n a b:Nat}(ha:a<n)(hb:b<n)(ne:a≠b){f g:Nat->Int}(h: ∀i,i<n->i≠a->i≠b->f i=g i):ls (ND n) f-ls (ND n) g=(f a-g a)+(f b-g b):=by
 rw[<-eA];rw[bh (g:=λx=>(if x=a then f a-g a else 0)+(if x=b then f b-g b else 0)),hX,ke Oh _ (NF.mpr ha),ke Oh _ (NF.mpr hb)];intro x hx;rw[NF] at hx
 by_cases e:x=a
 ·subst e;rw[if_pos rfl,if_neg ne];omega
 ·by_cases e2:x=b
  ·subst e2;rw[if_neg e,if_pos rfl];omega
  ·rw[if_neg e,if_neg e2,h x hx e e2];omega
theorem D7 {n:Nat}{o:List Nat}(ho:o.length=n)(f:Nat->Int):ls (ND n) (λc=>f (o.getD c 0))=ls o f:=by
 rw[<-Eb (λc=>o.getD c 0)];congr 1;apply SB
 ·rw[NK,Pc,ho]
 ·intro i h1 h2;rw[List.getElem_map,List.getElem_range,Oy,NL h2];rfl
theorem tQ {n:Nat}{o:List Nat}(O:Ord n o)(f:Nat->Int):ls (ND n) (λc=>f (o.getD c 0))=ls (ND n) f:=by
 rw[D7 O.len];exact zE O.perm
theorem tV {n s e x:Nat}(hs:s<n)(he:e<n)(hx:x<n):bi (bC n s e x)=bi (decide (s<=x)) -bi (decide (e<=x))+bi (decide (e<s)):=by
 have h:0<n:=by omega
 have m: ∀y:Nat,y<n->((y:Int) -s) % (n:Int)=if s<=y then((y:Int) -s) else((y:Int) -s+n):=λy hy=>by
  split
  ·exact O1 (by omega) (by omega)
  ·rw[<-RV];exact O1 (by omega) (by omega)
 unfold bC;rw[m x hx,m e he];unfold bi;simp only[decide_eq_true_eq];split<;>split<;>(repeat' split)<;>omega
theorem FM {n a:Nat}(h:0<n)(ha:a<n)(b:Nat)(f:Nat->Int):ls (cH n a b) f=ls (ND n) (λc=>bi (bC n a b c)*f c):=by
 rw[zE (qW h ha b)];unfold rR;rw[oj]
theorem uS {n a:Nat}(h:0<n)(ha:a<n)(b:Nat):ls (ND n) (λc=>bi (bC n a b c))=((b:Int) -a) % n:=by
 have:=FM h ha b (λ_=>1);rw[iu] at this;simp only[Z4] at this;rw[<-this];unfold cH;rw[NK,Pc];exact(pE _ h).2
theorem du {o:List Nat}{a b:Nat}(ha:a<o.length)(hb:b<o.length)(i:Nat):(br o a b).getD i 0=if i=b then o.getD a 0 else if i=a then o.getD b 0 else o.getD i 0:=by
 unfold br;simp only[Oy,List.getElem?_set]
 by_cases e:i=b
 ·subst e;rw[if_pos rfl,if_pos (by rw[WW];exact hb),if_pos rfl];rfl
 ·rw[if_neg (OX e),if_neg e]
  by_cases e2:i=a
  ·subst e2;rw[if_pos rfl,if_pos ha,if_pos rfl];rfl
  ·rw[if_neg (OX e2),if_neg e2]
theorem oJ {o:List Nat}{n a b:Nat}(ho:o.length=n)(ha:a<n)(hb:b<n)(ne:a≠b)(g:Nat->Nat->Int):
 ls (ND n) (λi=>g i (o.getD i 0)) -ls (ND n) (λi=>g i ((br o a b).getD i 0))=g a (o.getD a 0)+g b (o.getD b 0) -g a (o.getD b 0) -g b (o.getD a 0):=by
 rw[Io ha hb ne (f:=λi=>g i (o.getD i 0)) (g:=λi=>g i ((br o a b).getD i 0)) λi _ h1 h2=>by rw[du (ho▸ha) (ho▸hb),if_neg h2,if_neg h1]];simp only[du (ho▸ha:a<o.length) (ho▸hb:b<o.length)];rw[if_neg ne];simp only[if_true];omega
theorem iW(x y:Bool):bi (x&&y)=bi x*bi y:=by cases x<;>cases y<;>rfl
theorem gD(a b:Nat):bi (decide (a<b))=1-bi (decide (b<=a)):=by
 unfold bi;simp only[decide_eq_true_eq];split<;>split<;>omega
def Fl(n:Nat)(r o:List Nat):Int:=ls (ND n) λi=>ls (ND n) λc=>bi (decide (i<=c)&&decide (o.getD i 0<=r.getD c 0))
def Ff(n:Nat)(r o:List Nat):Int:=ls (ND n) λc=>ls (ND n) λi=>bi (decide (c<i)&&decide (r.getD c 0<o.getD i 0))
def wR(n:Nat)(o:List Nat):Int:=ls (ND n) λi=>ls (ND n) λj=>bi (decide (i<j)&&decide (o.getD i 0<o.getD j 0))
def mG(n:Nat)(r o:List Nat)(a b:Nat):Int:=ls (ND n) λc=>bi (bC n a b c)*bi (bC n (o.getD a 0) (o.getD b 0) (r.getD c 0))
def vq(n:Nat)(o:List Nat)(a b:Nat):Int:=ls (ND n) λc=>bi (bC n a b c)*bi (decide (c≠a)&&bC n (o.getD a 0) (o.getD b 0) (o.getD c 0))
def vJ(n:Nat)(o:List Nat)(a b:Nat):Int:=bi (decide (o.getD b 0<o.getD a 0))*(((b:Int) -a) % n)+bi (decide (b<a))*(((o.getD b 0:Int) -o.getD a 0) % n) -n*(bi (decide (b<a))*bi (decide (o.getD b 0<o.getD a 0)))
section
variable {n a b:Nat}{r o:List Nat}(O:Ord n o)(R:Ord n r)(ha:a<n)(hb:b<n)(ne:a≠b)
include O R ha hb ne
theorem wk:ls (ND n) (λc=>(bi (decide (a<=c)) -bi (decide (b<=c)))*(bi (decide (o.getD a 0<=r.getD c 0)) -bi (decide (o.getD b 0<=r.getD c 0))))=mG n r o a b-vJ n o a b:=by
 have h:0<n:=by omega
 rw[bh (g:=λc=>((bi (bC n a b c)*bi (bC n (o.getD a 0) (o.getD b 0) (r.getD c 0)) -bi (decide (o.getD b 0<o.getD a 0))*bi (bC n a b c)) -bi (decide (b<a))*bi (bC n (o.getD a 0) (o.getD b 0) (r.getD c 0)))+bi (decide (b<a))*bi (decide (o.getD b 0<o.getD a 0)))]
 ·rw[hX,eA,eA,nT,nT,uS h ha,tQ R (λv=>bi (bC n (o.getD a 0) (o.getD b 0) v)),uS h (O.get ha),iu,Pc];unfold mG vJ;omega
 ·intro c hc;rw[NF] at hc;rw[tV ha hb hc,tV (O.get ha) (O.get hb) (R.get hc)];grind
theorem Jo:Fl n r o-Fl n r (br o a b)=mG n r o a b-vJ n o a b:=by
 unfold Fl;rw[oJ O.len ha hb ne (λi u=>ls (ND n) λc=>bi (decide (i<=c)&&decide (u<=r.getD c 0)))];rw[<-wk O R ha hb ne,<-hX,<-eA,<-eA];refine bh λc _=>?_
 simp only[iW];grind
theorem Jm:Ff n r o-Ff n r (br o a b)=mG n r o a b-vJ n o a b:=by
 unfold Ff;rw[<-wk O R ha hb ne,<-eA];refine bh λc _=>?_
 rw[oJ O.len ha hb ne (λi u=>bi (decide (c<i)&&decide (r.getD c 0<u)))];simp only[iW,gD];grind
end
section
variable {n a b:Nat}{o:List Nat}(O:Ord n o)(ha:a<n)(hb:b<n)(ne:a≠b)
include O ha hb ne
theorem El:wR n o-wR n (br o a b)=1+2*vq n o a b-2*vJ n o a b:=by
 have h:0<n:=by omega
 have s1:wR n o- (ls (ND n) λi=>ls (ND n) λj=>bi (decide (i<j)&&decide ((br o a b).getD i 0<o.getD j 0)))=ls (ND n) λj=>(bi (decide (a<j)) -bi (decide (b<j)))*(bi (decide (o.getD a 0<o.getD j 0)) -bi (decide (o.getD b 0<o.getD j 0))):=by
  unfold wR;rw[oJ O.len ha hb ne (λi u=>ls (ND n) λj=>bi (decide (i<j)&&decide (u<o.getD j 0))),<-hX,<-eA,<-eA];refine bh λc _=>?_
  simp only[iW];grind
 have s2:(ls (ND n) λi=>ls (ND n) λj=>bi (decide (i<j)&&decide ((br o a b).getD i 0<o.getD j 0))) -wR n (br o a b)=ls (ND n) λi=>(bi (decide (i<a)) -bi (decide (i<b)))*(bi (decide ((br o a b).getD i 0<o.getD a 0)) -bi (decide ((br o a b).getD i 0<o.getD b 0))):=by
  unfold wR;rw[<-eA];refine bh λi _=>?_
  rw[oJ O.len ha hb ne (λj u=>bi (decide (i<j)&&decide ((br o a b).getD i 0<u)))];simp only[iW];grind
 have s3:wR n o-wR n (br o a b)=ls (ND n) λj=>(((2*(bi (bC n a b j)*bi (decide (j≠a)&&bC n (o.getD a 0) (o.getD b 0) (o.getD j 0))) -2*bi (decide (o.getD b 0<o.getD a 0))*bi (bC n a b j)) -2*bi (decide (b<a))*bi (bC n (o.getD a 0) (o.getD b 0) (o.getD j 0)))+2*(bi (decide (b<a))*bi (decide (o.getD b 0<o.getD a 0))))+((if j=a then bi (decide (o.getD b 0<o.getD a 0))+2*bi (decide (b<a)) else 0)+(if j=b then 1-2*bi (decide (b<a)) -bi (decide (o.getD b 0<o.getD a 0)) else 0)):=by
  rw[show wR n o-wR n (br o a b)=_+_ from(by rw[<-s1,<-s2];omega:_=(ls (ND n) λj=>(bi (decide (a<j)) -bi (decide (b<j)))*(bi (decide (o.getD a 0<o.getD j 0)) -bi (decide (o.getD b 0<o.getD j 0))))+ls (ND n) λi=>(bi (decide (i<a)) -bi (decide (i<b)))*(bi (decide ((br o a b).getD i 0<o.getD a 0)) -bi (decide ((br o a b).getD i 0<o.getD b 0)))),<-hX];refine bh λj hj=>?_
  rw[NF] at hj;rw[tV ha hb hj,iW,tV (O.get ha) (O.get hb) (O.get hj),du (O.len▸ha) (O.len▸hb)];have oab:o.getD a 0≠o.getD b 0:=λe=>ne (O.inj ha hb e)
  by_cases e:j=a
  ·subst e;rw[if_neg ne,if_pos rfl,if_pos rfl,if_neg ne];unfold bi;simp only[decide_eq_true_eq]
   (repeat' split)<;>first|omega|(exfalso;omega)|simp
  ·by_cases e2:j=b
   ·subst e2;rw[if_pos rfl,if_neg e,if_pos rfl];unfold bi;simp only[decide_eq_true_eq]
    (repeat' split)<;>first|omega|(exfalso;omega)|simp
   ·rw[if_neg e2,if_neg e,if_neg e,if_neg e2];have oa:o.getD j 0≠o.getD a 0:=λx=>e (O.inj hj ha x)
    have ob:o.getD j 0≠o.getD b 0:=λx=>e2 (O.inj hj hb x)
    have q: ∀x y:Nat,y≠x->bi (decide (x<y))=bi (decide (x<=y)):=λx y h=>by
     unfold bi;simp only[decide_eq_true_eq];split<;>split<;>omega
    rw[q _ _ e,q _ _ e2,q _ _ oa,q _ _ ob,gD j a,gD j b,gD (o.getD j 0),gD (o.getD j 0),show decide (j≠a)=true from decide_eq_true e];show _=_;have:bi true=1:=rfl;rw[this];grind
 rw[s3];rw[hX,hX,hX,eA,eA,nT,nT,nT,ke Oh _ (NF.mpr ha),ke Oh _ (NF.mpr hb),uS h ha,tQ O (λv=>bi (bC n (o.getD a 0) (o.getD b 0) v)),uS h (O.get ha),iu,Pc];unfold vq vJ;grind
end
theorem vP(v:Nat): ∀l:List Nat,v∈l-> ∃j,(l.map nI).findIdx? (λd=>dq d (nI v))=some j/\j<l.length/\l.getD j 0=v
 | [],h=>absurd h P2
 |y::l,h=>by
  rw[NS,List.findIdx?_cons,iX]
  by_cases e:y=v
  ·exact⟨0,by simp[e],by simp,by simpa using e⟩
  ·obtain⟨j,h1,h2,h3⟩:=vP v l ((Oc.mp h).resolve_left (OX e));refine⟨j+1,by simp[e,h1],by simp[h2],by simpa using h3⟩
structure Sg(n:Nat)(r x:List Nat)(S:Nat->Nat):Prop where
 ev: ∀y,y<n->mP (ay x) (nI (r.getD y 0))=some (nI (S y))
 lt: ∀y,y<n->S y<n
 inj: ∀y z,y<n->z<n->S y=S z->y=z
theorem zG {n:Nat}{r x:List Nat}(R:Ord n r)(X:Ord n x): ∃S,Sg n r x S:=by
 have h: ∀y,∃z,y<n->mP (ay x) (nI (r.getD y 0))=some (nI z)/\z<n/\x.getD z 0=r.getD y 0:=λy=>by
  by_cases hy:y<n
  ·obtain⟨j,h1,h2,h3⟩:=vP (r.getD y 0) x (X.has (R.get hy));refine⟨j,λ_=>⟨?_,X.len▸h2,h3⟩⟩;show(if cE (x.map nI)<=32 then(o4 (x.map nI) (nI (r.getD y 0))).map (λj=>D.int j) else none)=_;rw[if_pos (by rw[hZ];omega)];unfold o4;rw[h1];rfl
  ·exact⟨0,λq=>absurd q hy⟩
 obtain⟨S,hS⟩:=SG.mp h;exact⟨S,λy hy=>(hS y hy).1,λy hy=>(hS y hy).2.1,λy z hy hz e=>R.inj hy hz ((hS y hy).2.2.symm.trans (e▸(hS z hz).2.2))⟩
theorem pU {n:Nat}{l:List Nat}(nd:l.Nodup)(h: ∀z∈l,z<n):l.length<=n:=by
 have p:l.Perm ((ND n).filter λz=>decide (z∈l)):=(Ou nd (Pn _ Oh)).mpr λz=>by
  rw[OU,NF,decide_eq_true_eq];exact⟨λq=>⟨h z q,q⟩,λq=>q.2⟩
 rw[p.length_eq];exact OE (Pf _ _) (by simp)
def nM(S:Nat->Nat):Nat->Nat->Nat
 |0,s=>s
 |k+1,s=>S (nM S k s)
def rg(S:Nat->Nat)(s z:Nat):Prop:= ∃k,nM S k s=z
theorem gy(S:Nat->Nat)(s:Nat):rg S s s:=⟨0,rfl⟩
theorem qJ {S:Nat->Nat}{s z:Nat}(h:rg S s z):rg S s (S z):=let⟨k,e⟩:=h;⟨k+1,by show S (nM S k s)=_;rw[e]⟩
theorem y9(S:Nat->Nat)(s m:Nat): ∀k,nM S k (nM S m s)=nM S (k+m) s
 |0=>by rw[Qt];rfl
 |k+1=>by rw[VZ];show S _=S _;rw[y9 S s m k]
theorem kG {S:Nat->Nat}{a b c:Nat}(h1:rg S a b)(h2:rg S b c):rg S a c:=by
 obtain⟨m,rfl⟩:=h1;obtain⟨k,rfl⟩:=h2;exact⟨k+m,(y9 S a m k).symm⟩
structure Wlk(n:Nat)(S:Nat->Nat)(s:Nat)(W:List Nat)(t:Nat):Prop where
 nd:W.Nodup
 lt: ∀z∈W,z<n
 hs:s∈W
 ht:t∈W
 pre: ∀z∈W,z≠s-> ∃y∈W,y≠t/\S y=z
 nxt: ∀z∈W,z≠t->S z∈W
 on: ∀z∈W,rg S s z
 back: ∀z∈W,rg S z t
structure Cyc(n:Nat)(S:Nat->Nat)(s:Nat)(W:List Nat):Prop where
 lt: ∀z∈W,z<n
 mem: ∀z,z∈W↔rg S s z
 back: ∀z,z∈W->rg S z s
section
variable {n:Nat}{r x:List Nat}{S:Nat->Nat}(H:Sg n r x S)
theorem Wlk.start {s:Nat}(hs:s<n):Wlk n S s [s] s:=
 ⟨by simp,λz hz=>by rw[Om] at hz;rw[hz];exact hs,by simp,by simp,λz hz hn=>absurd (Om.mp hz) hn,λz hz hn=>absurd (Om.mp hz) hn,λz hz=>by rw[Om] at hz;rw[hz];exact gy S s,λz hz=>by rw[Om] at hz;rw[hz];exact gy S s⟩
include H
theorem Wlk.notin {s t:Nat}{W:List Nat}(w:Wlk n S s W t)(h:S t≠s):S t∉W:=λhm=>by
 obtain⟨y,y1,y2,y3⟩:=w.pre _ hm h;exact y2 (H.inj _ _ (w.lt _ y1) (w.lt _ w.ht) y3)
theorem Wlk.next {s t:Nat}{W:List Nat}(w:Wlk n S s W t)(h:S t≠s):Wlk n S s (W++[S t]) (S t):=by
 have hm:=w.notin H h;have cs: ∀ {P:Nat->Prop},(∀z∈W,P z)->P (S t)-> ∀z∈W++[S t],P z:=λh1 h2 z hz=>(Pt.mp hz).elim (h1 z) λq=>by rw[Om] at q;rw[q];exact h2
 refine⟨Qn.mpr ⟨w.nd,by simp,λu hu v hv=>by rw[Om] at hv;subst hv;exact λe=>hm (e▸hu)⟩,cs w.lt (H.lt _ (w.lt _ w.ht)),PZ _ w.hs,by simp,cs (λz hz hn=>?_) (λ_=>⟨t,PZ _ w.ht,λe=>hm (e▸w.ht),rfl⟩),cs (λz hz hn=>?_) (λq=>absurd rfl q),cs w.on (qJ (w.on _ w.ht)),cs (λz hz=>qJ (w.back z hz)) (gy S _)⟩
 ·obtain⟨y,y1,_,y3⟩:=w.pre z hz hn;exact⟨y,PZ _ y1,λe=>hm (e▸y1),y3⟩
 ·by_cases e:z=t
  ·subst e;simp
  ·exact PZ _ (w.nxt z hz e)
omit H in
theorem Wlk.done {s t:Nat}{W:List Nat}(w:Wlk n S s W t)(h:S t=s):Cyc n S s W:=by
 refine⟨w.lt,λz=>⟨w.on z,?_⟩,λz hz=>h▸qJ (w.back z hz)⟩;rintro⟨k,rfl⟩
 induction k with
 |zero=>exact w.hs
 |succ k ih=>
  show S (nM S k s)∈W
  by_cases e:nM S k s=t
  ·rw[e,h];exact w.hs
  ·exact w.nxt _ ih e
theorem DZ {s:Nat}(hs:s<n): ∃W,Cyc n S s W:=by
 have go: ∀(f:Nat) (W:List Nat) (t:Nat),n<f+W.length->Wlk n S s W t-> ∃W,Cyc n S s W:=by
  intro f
  induction f with
  |zero=>intro W t h w;exact absurd (pU w.nd w.lt) (by omega)
  |succ f ih=>
   intro W t h w
   by_cases e:S t=s
   ·exact⟨W,w.done e⟩
   ·exact ih (W++[S t]) (S t) (by rw[Of,O7];omega) (w.next H e)
 exact go (n+1) [s] s (by omega) (Wlk.start hs)
theorem jV {s z:Nat}(hs:s<n)(h:rg S s z):rg S z s:=by
 obtain⟨W,c⟩:=DZ H hs;exact c.back z ((c.mem z).mpr h)
end
def led(S:Nat->Nat)(s:Nat):Prop:= ∀z,rg S s z->s<=z
noncomputable def iS(S:Nat->Nat)(s:Nat):Bool:= @decide (led S s) (Um _)
theorem ledB_iff {S:Nat->Nat}{s:Nat}:iS S s=true↔led S s:=by unfold iS;exact @decide_eq_true_iff _ (Um _)
def J4:FT:=bQ (aw l9 (aw bo (ai 0) (aw bo (eB 3) (kS (aD (.int 1))))) (ai 2))
def J2:FS:=cu (aQ 3 1 ic (cN (aa (aw bo (ai 0) (aw bo (eB 3) (kS (aD (.int 1))))) (aj))))
def LT:FS:=fB (bQ (aw pJ (ak sv (aa (eB 3) (aj))) (ai 2))) ((λρ=>(cu (aQ 1 1 ic (cN (aa (ai 3) (aj))))) (Bx 3 ρ))) (skip)
def fZ:FS:=
 aC (gH 1 (cq (aj)))
 (aC (jn (cN (eD (aa (ak cS (aa (ai 0) (aj))) (aj)))) (gN 2) (aC (gH 3 (cq (aa (ai 2) (aj))))
 (aC (u0 J4 J2 16)
 LT)))
 (w8 1))
def jG:List D->Option D:=dP .n 4 fZ
structure Wl(n:Nat)(S:Nat->Nat)(s:Nat)(W:List Nat)(t:Nat):Prop where
 w:Wlk n S s W t
 last:W.getLast?=some t
 eq:W=(ND W.length).map λi=>nM S i s
structure Cy(n:Nat)(S:Nat->Nat)(s:Nat)(W:List Nat):Prop where
 c:Cyc n S s W
 eq:W=(ND W.length).map λi=>nM S i s
 per:nM S W.length s=s
 nd:W.Nodup
 pos:0<W.length
structure Sh(n:Nat)(S:Nat->Nat):Prop where
 lt: ∀y,y<n->S y<n
 inj: ∀y z,y<n->z<n->S y=S z->y=z
theorem Sh.sg {n:Nat}{S:Nat->Nat}(H:Sh n S):Sg n ((ND n).map S) (ND n) S:=by
 refine⟨λy hy=>?_,H.lt,H.inj⟩;have e:((ND n).map S).getD y 0=S y:=by simp[OJ,hy]
 rw[e];obtain⟨j,h1,h2,h3⟩:=vP (S y) (ND n) (NF.mpr (H.lt y hy));have:j=S y:=by
  rw[Pc] at h2;simpa [OJ,h2] using h3
 subst this;show(if cE ((ND n).map nI)<=32 then(o4 ((ND n).map nI) (nI (S y))).map (λj=>D.int j) else none)=_;rw[if_pos (by rw[hZ];omega)];unfold o4;rw[h1];rfl
theorem Wl.start {n:Nat}{S:Nat->Nat}{s:Nat}(hs:s<n):Wl n S s [s] s:=⟨Wlk.start hs,rfl,rfl⟩
theorem Wl.tt {n:Nat}{S:Nat->Nat}{s t:Nat}{W:List Nat}(w:Wl n S s W t):S t=nM S W.length s:=by
 have h:=w.last;have e:=w.eq;have hp:0<W.length:=by
  cases W with
  |nil=>cases h
  |cons=>simp
 rw[Tx] at h;have e2:W[W.length-1]? =some (nM S (W.length-1) s):=by
  have q: ∀k,k<W.length->((ND W.length).map λi=>nM S i s)[k]? =some (nM S k s):=λk hk=>by rw[OH,RE hk];rfl
  have q2:=q (W.length-1) (by omega);rw[<-e] at q2;exact q2
 have e3:=h.symm.trans e2;injection e3 with e3
 have:W.length=(W.length-1)+1:=by omega
 rw[this];show S t=S (nM S (W.length-1) s);rw[<-e3]
theorem Wl.next {n:Nat}{S:Nat->Nat}(H:Sh n S){s t:Nat}{W:List Nat}(w:Wl n S s W t)(h:S t≠s):Wl n S s (W++[S t]) (S t):=by
 refine⟨w.w.next H.sg h,by simp,?_⟩;rw[Of,O7,UM,O3,<-w.eq,w.tt];rfl
theorem Wl.done {n:Nat}{S:Nat->Nat}{s t:Nat}{W:List Nat}(w:Wl n S s W t)(h:S t=s):Cy n S s W:=by
 refine⟨w.w.done h,w.eq,by rw[<-w.tt];exact h,w.w.nd,?_⟩;have:=w.last;cases W with
 |nil=>cases this
 |cons=>simp
theorem Cy.uniq {n:Nat}{S:Nat->Nat}{s:Nat}{W W':List Nat}(a:Cy n S s W)(b:Cy n S s W'):W=W':=by
 have key: ∀ {W W':List Nat},Cy n S s W->Cy n S s W'-> ¬W.length<W'.length:=λ{W W'} a b h=>by
  have e0:W'[0]? =some s:=by rw[b.eq];simp[b.pos];rfl
  have e1:W'[W.length]? =some s:=by rw[b.eq];simp[h];exact a.per
  have:=(TY (by exact b.pos) b.nd).mp (e0.trans e1.symm);have:=a.pos;omega
 have:W.length=W'.length:=by have h1:=key a b;have h2:=key b a;omega
 rw[a.eq,b.eq,this]
section
variable {n:Nat}{S:Nat->Nat}(H:Sh n S)(hn:n<=14)
abbrev Fn(n:Nat)(S:Nat->Nat)(F:List D)(s:Nat)(W:List Nat):aF:=[.v (.lst (((ND n).map S).map nI)),.own F,.v (nI s),.own (W.map nI)]
theorem F2 {W:List Nat}{t:Nat}(h:W.getLast?=some t):bo (.lst (W.map nI)) (.int (-1))=some (nI t):=by
 show sA (W.map nI) (-1)=_;have hp:0<W.length:=by
  cases W with
  |nil=>cases h
  |cons=>simp
 unfold sA wS;rw[if_neg (by omega),if_pos (by rw[NK];omega),NN];have:(-1+((W.map nI).length:Int)).toNat=W.length-1:=by rw[NK];omega
 rw[this,OH,<-Tx,h];rfl
theorem JF(ρ:aF):kS (aD (.int 1)) ρ=some (.int (-1)):=rfl
include H in
theorem Eh {F:List D}{s t:Nat}{W:List Nat}(w:Wl n S s W t):aw bo (ai 0) (aw bo (eB 3) (kS (aD (.int 1)))) (Fn n S F s W)=some (nI (S t)):=by
 refine(aB (x:=.lst (((ND n).map S).map nI)) (y:=nI t) rfl ((aB (x:=.lst (W.map nI)) rfl (JF _)).trans (F2 w.last))).trans ?_
 have ht:=w.w.lt _ w.w.ht;refine(As (by simp[ht])).trans ?_
 congr 2;simp[OJ,ht]
include H hn in
theorem ug(F:List D)(s:Nat): ∀(f:Nat) (W:List Nat) (t:Nat),n<f+W.length->Wl n S s W t->
 ∃L,u0 J4 J2 f (Fn n S F s W)=.nx (Fn n S F s L)/\Cy n S s L
 |0,W,t,h,w=>absurd (pU w.w.nd w.w.lt) (by omega)
 |f+1,W,t,h,w=>by
  unfold u0;have tt:J4 (Fn n S F s W)=some (!decide (S t=s)):=by
   unfold J4;refine bY ((aB (x:=nI (S t)) (y:=nI s) (Eh H w) rfl).trans ?_);rw[jW (by rw[fM];omega),iX]
  rw[tt]
  by_cases e:S t=s
  ·rw[show(!decide (S t=s))=false by simp[e]];exact⟨W,rfl,w.done e⟩
  ·rw[show(!decide (S t=s))=true by simp[e]];have ll:=pU w.w.nd w.w.lt;have b:J2 (Fn n S F s W)=.nx (Fn n S F s (W++[S t])):=by
    unfold J2;refine(uR (i:=3) (bs:=W.map nI) (d:=nI (S t)) rfl (cF (al (Eh H w) rfl)) rfl (by rw[NK];omega)).trans ?_
    unfold Fn;rw[O3];rfl
   obtain⟨L,h1,h2⟩:=ug F s f (W++[S t]) (S t) (by rw[Of,O7];omega) (w.next H e);refine⟨L,?_,h2⟩;dsimp only;rw[b];exact h1
theorem ET: ∀l:List Nat,fR (l.map nI)=some (l.map λ(z:Nat)=>(z:Int))
 | []=>rfl
 |z::l=>by rw[NS];show(fR (l.map nI)).map _=_;rw[ET l];rfl
theorem KP {l:List Nat}{s:Nat}(h:s∈l): ∃v:Int,sv [.lst (l.map nI)]=some (.int v)/\(v=s↔ ∀z∈l,s<=z):=by
 refine⟨oh (l.map λ(z:Nat)=>(z:Int)),?_,?_⟩
 ·show((fR (l.map nI)).bind λns=>if ns.isEmpty=true then none else some (D.int (oh ns)))=_;rw[ET];cases l with
  |nil=>exact absurd h P2
  |cons=>rfl
 ·cases l with
  |nil=>exact absurd h P2
  |cons a l=>
   obtain⟨m1,m2⟩:=wr (l.map λ(z:Nat)=>(z:Int)) (a:Int);have m1:oh ((a::l).map λ(z:Nat)=>(z:Int))∈(a::l).map λ(z:Nat)=>(z:Int):=m1
   have m2: ∀x∈(a::l).map (λ(z:Nat)=>(z:Int)),oh ((a::l).map λ(z:Nat)=>(z:Int))<=x:=m2
   constructor
   ·intro e z hz;have:=m2 z (N5.mpr ⟨z,hz,rfl⟩);omega
   ·intro q;have h1:=m2 s (N5.mpr ⟨s,h,rfl⟩);obtain⟨z,hz,e⟩:=N5.mp m1;have h2:=q z hz;omega
include H hn in
theorem o6: ∃C:Nat->List Nat,(∀s,s<n->Cy n S s (C s))/\
 jG [.lst (((ND n).map S).map nI)]=some (.lst (((ND n).filter (iS S)).map λs=>.lst ((C s).map nI))):=by
 have hC: ∀s,∃L,s<n->Cy n S s L:=λs=>by
  by_cases hs:s<n
  ·obtain⟨L,_,h⟩:=ug H hn [] s 16 [s] s (by simp;omega) (Wl.start hs);exact⟨L,λ_=>h⟩
  ·exact⟨[],λh=>absurd h hs⟩
 obtain⟨C,hC⟩:=SG.mp hC;refine⟨C,hC,?_⟩;have lp: ∀(l:List Nat),(∀s∈l,s<n)-> ∀(F:List D) (s2 s3:Sl),F.length+l.length<=900-> ∃s2' s3',fO (gN 2) (aC (gH 3 (cq (aa (ai 2) (aj)))) (aC (u0 J4 J2 16) LT)) (l.map nI) [.v (.lst (((ND n).map S).map nI)),.own F,s2,s3]
  =.nx [.v (.lst (((ND n).map S).map nI)),.own (F++(l.filter (iS S)).map λs=>.lst ((C s).map nI)),s2',s3']:=by
  intro l
  induction l with
  |nil=>intro _ F s2 s3 _;exact⟨s2,s3,by simp[fO]⟩
  |cons s l ih=>
   intro hl F s2 s3 hF;rw[On] at hF;have hs:=hl s (Oe ..);obtain⟨L,hL,K⟩:=ug H hn F s 16 [s] s (by simp;omega) (Wl.start hs);cases K.uniq (hC s hs);have b1:(aC (gH 3 (cq (aa (ai 2) (aj)))) (aC (u0 J4 J2 16) LT)) [.v (.lst (((ND n).map S).map nI)),.own F,.v (nI s),s3]=LT (Fn n S F s (C s)):=
    (aA (ρ':=Fn n S F s [s]) ((mw (fo (ds:=[nI s]) rfl (by simp))).trans rfl)).trans (aA hL)
   obtain⟨v,hv,hv2⟩:=KP ((K.c.mem s).mpr (gy S s));have hv3:v=s↔iS S s=true:=hv2.trans ((Iff.intro (λq z hz=>q z ((K.c.mem z).mpr hz)) λq z hz=>q z ((K.c.mem z).mp hz)).trans ledB_iff.symm);have ih':=ih λz hz=>hl z (N3 _ hz)
   have tt:bQ (aw pJ (ak sv (aa (eB 3) (aj))) (ai 2)) (Fn n S F s (C s))=some (iS S s):=by
    refine bY ((aB (x:=.int v) (y:=nI s) ((bD (ds:=[.lst ((C s).map nI)]) rfl).trans hv) rfl).trans ?_);rw[oK (by rw[fM];omega),jb];congr 2;rw[Ov,decide_eq_true_eq];exact hv3
   cases e:iS S s
   ·rw[e] at tt;obtain⟨s2',s3',h⟩:=ih' F (.v (nI s)) (.own ((C s).map nI)) (by omega);refine⟨s2',s3',?_⟩;rw[NS,Q4 (by rw[e];decide),<-h];exact fI (ρ1:=[.v (.lst (((ND n).map S).map nI)),.own F,.v (nI s),s3]) rfl (b1.trans (mq tt))
   ·rw[e] at tt;obtain⟨s2',s3',h⟩:=ih' (F++[.lst ((C s).map nI)]) (.v (nI s)) (.v (.lst ((C s).map nI))) (by rw[Of,O7];omega);refine⟨s2',s3',?_⟩;rw[NS,Q5 e,NS,List.append_cons,<-h];exact fI (ρ1:=[.v (.lst (((ND n).map S).map nI)),.own F,.v (nI s),s3]) rfl (b1.trans ((gF tt).trans ((uR (i:=1) (bs:=F) (d:=.lst ((C s).map nI)) rfl (cF rfl) rfl (by omega)).trans rfl)))
 obtain⟨s2',s3',h⟩:=lp (ND n) (λs hs=>NF.mp hs) [] .no .no (by simp;omega);apply aV (kd:=.n) (n:=4) (t:=fZ);unfold fZ;refine(aA (ρ':=[.v (.lst (((ND n).map S).map nI)),.own [],.no,.no]) ((mw (fo (ds:=[]) rfl (by simp))).trans rfl)).trans ?_
 refine(aA ((js (ds:=(ND n).map nI) (cF (gM (n:=n) (al ((vy ((ND n).map S) _ _ rfl).trans (by simp)) rfl) (by omega)))).trans h)).trans ?_
 rfl
end
def jY:FS:=
 aC (cy (gT 2 (cQ (gN 1) (cQ (gN 2) (gU)))) (pu (ai 0)))
 (aW (ak (nF 1 jG) (aa (bM 1 (wj (ai 1)) (gN 3) (bT) (aw mP (ai 2) (ai 3))) (aj))))
def wa:List D->Option D:=dP .n 3 jY
theorem Sg.sh {n:Nat}{r x:List Nat}{S:Nat->Nat}(H:Sg n r x S):Sh n S:=⟨H.lt,H.inj⟩
theorem A9(r:List Nat):r=(ND r.length).map λy=>r.getD y 0:=by
 apply SB (by simp);intro i h1 h2;simp[OJ,h1]
theorem Bs {n:Nat}{r x:List Nat}{S:Nat->Nat}(R:Ord n r)(X:Ord n x)(H:Sg n r x S)(hn:n<=8): ∃C:Nat->List Nat,(∀s,s<n->Cy n S s (C s))/\
 wa [c6 r x]=some (.lst (((ND n).filter (iS S)).map λs=>.lst ((C s).map nI))):=by
 obtain⟨C,hC,h⟩:=o6 H.sh (by omega);refine⟨C,hC,?_⟩;apply aV (kd:=.n) (n:=3) (t:=jY);unfold jY;refine(aA (ρ':=[.v (c6 r x),.v (ay r),.v (ay x)]) (dS (fU rfl) rfl)).trans ?_
 refine aT ((aN (ds:=[.lst (((ND n).map S).map nI)]) (al ?_ rfl) rfl).trans h);refine c9 (ds:=r.map nI) (GR rfl) (by rw[NK,R.len];omega) ?_
 have er:r.map nI=(ND n).map λy=>nI (r.getD y 0):=by
  conv=>lhs;rw[A9 r,R.len,N6]
  rfl
 rw[er,N6];refine eJ (ND n) λy hy=>?_
 rw[NF] at hy;exact⟨_,rfl,(aB (x:=ay x) (y:=nI (r.getD y 0)) rfl rfl).trans (H.ev y hy)⟩
def yT(xs:List Nat)(k:Int):List Nat:=(ND xs.length).map λ(i:Nat)=>xs.getD (((i:Int) -k) % xs.length).toNat 0
def xO(xs:List Nat)(k:Int):List Nat:=xs.map λ(v:Nat)=>(((v:Int)+k) % xs.length).toNat
theorem vG(xs:List Nat)(k:Int):(yT xs k).length=xs.length:=by simp[yT]
theorem Ed(xs:List Nat)(k:Int):(xO xs k).length=xs.length:=by simp[xO]
theorem CB(xs:List Nat)(k:Int){i:Nat}(h:i<xs.length):(yT xs k).getD i 0=xs.getD (((i:Int) -k) % xs.length).toNat 0:=by
 simp[yT,OJ,h]
theorem Dq(xs:List Nat)(k:Int){i:Nat}(h:i<xs.length):(xO xs k).getD i 0=((((xs.getD i 0:Nat):Int)+k) % xs.length).toNat:=by
 simp[xO,OJ,h]
theorem mO {xs ys:List Nat}(hl:xs.length=ys.length)(h: ∀i,i<xs.length->xs.getD i 0=ys.getD i 0):xs=ys:=by
 refine SB hl λi h1 h2=>?_
 have:=h i h1;simpa [OJ,h1,h2] using this
theorem yc {n:Nat}(h:0<n)(a:Int):((ND n).map λ(i:Nat)=>(((i:Int)+a) % n).toNat).Perm (ND n):=by
 refine(Ou ?_ Oh).mpr λj=>?_
 ·show T9 (·≠ ·) _;rw[OY];refine O4 (λ{i j} hi hj hlt e=>?_) Pp;rw[NF] at hi hj;have m1:=pE ((i:Int)+a) h;have m2:=pE ((j:Int)+a) h;have:((i:Int)+a) % n=((j:Int)+a) % n:=by omega
  rw[Tw,O1 (by omega) (by omega),O1 (by omega) (by omega)] at this;omega
 ·rw[N5,NF];constructor
  ·rintro⟨i,_,rfl⟩;exact(pE _ h).1
  ·intro hj;have m:=pE ((j:Int) -a) h;refine⟨(((j:Int) -a) % n).toNat,by rw[NF];exact m.1,?_⟩;rw[m.2,Sn,show(j:Int) -a+a=j by omega,O1 (by omega) (by omega)];rfl
def Fm(n:Nat)(k:Int)(v:Nat):Nat:=(((v:Int)+k) % n).toNat
structure Mv(n:Nat)(t:Nat->Nat):Prop where
 lt: ∀c,c<n->t c<n
 inj: ∀c d,c<n->d<n->t c=t d->c=d
 sur: ∀c,c<n-> ∃d,d<n/\t d=c
 inb: ∀s e v,s<n->e<n->v<n->bC n (t s) (t e) (t v)=bC n s e v
theorem qp {n:Nat}(h:0<n)(k:Int):Mv n (Fm n k):=by
 have cast: ∀v:Nat,((Fm n k v:Nat):Int)=((v:Int)+k) % n:=λv=>(pE _ h).2
 have df: ∀u v:Nat,((Fm n k u:Int) -Fm n k v) % n=((u:Int) -v) % n:=λu v=>by
  rw[cast,cast,<-Wm,show(u:Int)+k- (v+k)=u-v by omega]
 refine⟨λc _=>(pE _ h).1,λc d hc hd e=>?_,λc hc=>?_,λs e v _ _ _=>?_⟩
 ·have:=df c d;rw[e,Int.sub_self,Int.zero_emod] at this;obtain⟨m,hm⟩:=Uk this.symm;have:m=0:=by
   rcases Wj m 0 with q|q|q
   ·have:(n:Int)*m<=n*(-1):=Qm (by omega) (by omega);omega
   ·exact q
   ·have:(n:Int)*1<=n*m:=Qm (by omega) (by omega);omega
  rw[this] at hm;omega
 ·have:=(yc h k).mem_iff.mpr (NF.mpr hc);obtain⟨d,hd,e⟩:=N5.mp this;exact⟨d,NF.mp hd,e⟩
 ·unfold bC;rw[df,df]
theorem Dt {n:Nat}{o:List Nat}(hl:o.length=n)(lt: ∀c,c<n->o.getD c 0<n)(inj: ∀c d,c<n->d<n->o.getD c 0=o.getD d 0->c=d)(sur: ∀v,v<n-> ∃c,c<n/\o.getD c 0=v):Ord n o:=by
 refine⟨(Ou ?_ Oh).mpr λv=>?_⟩
 ·rw[VN,Qc];intro i j hi hj ij e;have:=inj i j (by omega) (by omega) (by rw[Oy,NL hi,Oy,NL hj];exact e);omega
 ·rw[NF];constructor
  ·intro h;obtain⟨i,hi,rfl⟩:=S4 h;have:=lt i (by omega);rw[Oy,NL hi] at this;exact this
  ·intro h;obtain⟨c,hc,e⟩:=sur v h;rw[Oy,NL (by omega)] at e;have e:o[c]=v:=e;exact e▸SE _
theorem IW {n:Nat}{o:List Nat}(hl:o.length=n)(h:0<n)(k:Int){c:Nat}(hc:c<n):(yT o k).getD (Fm n k c) 0=o.getD c 0:=by
 rw[CB o k (by rw[hl];exact(pE _ h).1),hl];have:(((Fm n k c:Nat):Int) -k) % n=c:=by
  rw[show((Fm n k c:Nat):Int)=((c:Int)+k) % n from(pE _ h).2,Wm,Int.emod_emod,<-Wm,show(c:Int)+k-k=c by omega];exact O1 (by omega) (by omega)
 rw[this];rfl
theorem Jd {n:Nat}{o:List Nat}(hl:o.length=n)(k:Int){c:Nat}(hc:c<n):(xO o k).getD c 0=Fm n k (o.getD c 0):=by
 rw[Dq o k (by omega),hl];rfl
theorem Ord.mv {n:Nat}{o o':List Nat}{t u:Nat->Nat}(O:Ord n o)(T:Mv n t)(U:Mv n u)(hl:o'.length=n)(h: ∀c,c<n->o'.getD (t c) 0=u (o.getD c 0)):Ord n o':=by
 refine Dt hl (λc hc=>?_) (λc d hc hd e=>?_) λv hv=>?_
 ·obtain⟨c',hc',rfl⟩:=T.sur c hc;rw[h c' hc'];exact U.lt _ (O.get hc')
 ·obtain⟨c',hc',rfl⟩:=T.sur c hc;obtain⟨d',hd',rfl⟩:=T.sur d hd;rw[h c' hc',h d' hd'] at e;rw[O.inj hc' hd' (U.inj _ _ (O.get hc') (O.get hd') e)]
 ·obtain⟨w,hw,rfl⟩:=U.sur v hv;obtain⟨c,hc,e⟩: ∃c,c<n/\o.getD c 0=w:=by
   obtain⟨i,hi,e⟩:=S4 (O.has hw);exact⟨i,by rw[<-O.len];exact hi,by rw[Oy,NL hi];exact e⟩
  exact⟨t c,T.lt c hc,by rw[h c hc,e]⟩
theorem Kk {n:Nat}{o o' e':List Nat}{t u:Nat->Nat}(ho:o.length=n)(T:Mv n t)(hl:o'.length=n)(hl2:e'.length=n){a b:Nat}(ha:a<n)(hb:b<n)(h: ∀c,c<n->o'.getD (t c) 0=u (o.getD c 0))(h2: ∀c,c<n->e'.getD (t c) 0=u ((br o a b).getD c 0)):e'=br o' (t a) (t b):=by
 have tl:=T.lt a ha;have tm:=T.lt b hb;refine mO (by rw[hl2];unfold br;simp[hl]) λc hc=>?_
 rw[hl2] at hc;obtain⟨d,hd,rfl⟩:=T.sur c hc;rw[h2 d hd,du (by omega) (by omega),du (by omega) (by omega)]
 by_cases e1:d=b
 ·subst e1;rw[if_pos rfl,if_pos rfl,h a ha]
 ·rw[if_neg e1,if_neg λq=>e1 (T.inj _ _ hd hb q)]
  by_cases e2:d=a
  ·subst e2;rw[if_pos rfl,if_pos rfl,h b hb]
  ·rw[if_neg e2,if_neg λq=>e2 (T.inj _ _ hd ha q),h d hd]
theorem vK {n:Nat}{r x o:List Nat}(O:Ord n o)(R:Ord n r)(X:Ord n x){a b:Nat}(ha:a<n)(hb:b<n)(ne:a≠b):cg r x o a b=true↔(∀c,c<n->bC n a b c=true->c≠a-> ¬bC n (o.getD a 0) (o.getD b 0) (o.getD c 0)=true)/\(∀c,c<n->bC n a b c=true-> ¬bC n (o.getD a 0) (o.getD b 0) (r.getD c 0)=true)/\(∀c,c<n->bC n a b c=true-> ¬bC n (o.getD a 0) (o.getD b 0) (x.getD c 0)=true):=by
 unfold cg;rw[NQ,iC O ha hb ne];refine and_congr ⟨λh c hc i ca j=>h c hc ⟨i,ca,j,λe=>ca (O.inj hc ha e)⟩,λh c hc ⟨i,ca,j,_⟩=>h c hc i ca j⟩ ?_
 unfold oO;rw[O.len,O0,QU];simp only[plF_mem,PD,decide_eq_true_eq,not_or,not_and];constructor
 ·intro h;exact⟨λc hc i j=>(h c ⟨hc,i⟩).1 (R.get hc) j,λc hc i j=>(h c ⟨hc,i⟩).2 (X.get hc) j⟩
 ·intro h c hc;exact⟨λ_ j=>h.1 c hc.1 hc.2 j,λ_ j=>h.2 c hc.1 hc.2 j⟩
def bv(o:List Nat):List Nat:=(ND o.length).map λv=>o.idxOf v
theorem cv {n:Nat}{o:List Nat}(O:Ord n o){v:Nat}(hv:v<n):o.idxOf v<n/\o.getD (o.idxOf v) 0=v:=by
 have hi:=List.idxOf_lt_length_of_mem (O.has hv);refine⟨by rw[<-O.len];exact hi,?_⟩;rw[Oy,NL hi,List.getElem_idxOf];rfl
theorem xP {n:Nat}{o:List Nat}(O:Ord n o){c:Nat}(hc:c<n):o.idxOf (o.getD c 0)=c:=O.inj (cv O (O.get hc)).1 hc (cv O (O.get hc)).2
theorem g9(o:List Nat):(bv o).length=o.length:=by simp[bv]
theorem fK {n:Nat}{o:List Nat}(O:Ord n o){v:Nat}(hv:v<n):(bv o).getD v 0=o.idxOf v:=by
 unfold bv;rw[Oy,OH,RE (by rw[O.len];exact hv)];rfl
theorem fG {n:Nat}{o:List Nat}(O:Ord n o){c:Nat}(hc:c<n):(bv o).getD (o.getD c 0) 0=c:=by rw[fK O (O.get hc),xP O hc]
theorem Ord.tip {n:Nat}{o:List Nat}(O:Ord n o):Ord n (bv o):=by
 refine Dt (by rw[g9,O.len]) (λv hv=>?_) (λv w hv hw e=>?_) λc hc=>⟨o.getD c 0,O.get hc,fG O hc⟩
 ·rw[fK O hv];exact(cv O hv).1
 ·rw[fK O hv,fK O hw] at e;rw[<-(cv O hv).2,e,(cv O hw).2]
theorem wM {n:Nat}{r x o:List Nat}(O:Ord n o)(R:Ord n r)(X:Ord n x){a b:Nat}(ha:a<n)(hb:b<n)(ne:a≠b):cg (bv r) (bv x) (bv o) (o.getD a 0) (o.getD b 0)=cg r x o a b:=by
 rw[Ov,vK O.tip R.tip X.tip (O.get ha) (O.get hb) λe=>ne (O.inj ha hb e),vK O R X ha hb ne,fG O ha,fG O hb];refine and_congr ⟨λh c hc i ca j=>?_,λh v hv j va i=>?_⟩ (and_congr ⟨λh c hc i j=>?_,λh v hv j i=>?_⟩ ⟨λh c hc i j=>?_,λh v hv j i=>?_⟩)
 ·exact h (o.getD c 0) (O.get hc) j (λe=>ca (O.inj hc ha e)) (by rw[fG O hc];exact i)
 ·rw[fK O hv] at i;have g:=cv O hv;exact h _ g.1 i (λe=>va (by rw[<-g.2,e])) (by rw[g.2];exact j)
 ·exact h (r.getD c 0) (R.get hc) j (by rw[fG R hc];exact i)
 ·rw[fK R hv] at i;have g:=cv R hv;exact h _ g.1 i (by rw[g.2];exact j)
 ·exact h (x.getD c 0) (X.get hc) j (by rw[fG X hc];exact i)
 ·rw[fK X hv] at i;have g:=cv X hv;exact h _ g.1 i (by rw[g.2];exact j)
theorem IB {n:Nat}{o:List Nat}(O:Ord n o){a b:Nat}(ha:a<n)(hb:b<n)(E:Ord n (br o a b)):bv (br o a b)=br (bv o) (o.getD a 0) (o.getD b 0):=by
 have la:=O.get ha;have lb:=O.get hb;have tl:(bv o).length=n:=by rw[g9,O.len]
 have ol:=O.len;refine mO (by rw[g9,E.len];unfold br;simp[tl]) λv hv=>?_
 rw[g9,E.len] at hv;rw[fK E hv,du (by omega) (by omega)];refine E.inj (cv E hv).1 ?_ ?_
 ·split
  ·exact O.tip.get la
  ·split
   ·exact O.tip.get lb
   ·exact O.tip.get hv
 rw[(cv E hv).2,fG O ha,fG O hb,du (by omega) (by omega)]
 by_cases e1:v=o.getD b 0
 ·rw[if_pos e1]
  by_cases e2:a=b
  ·rw[if_pos e2,e1,e2]
  ·rw[if_neg e2,if_pos rfl,e1]
 ·rw[if_neg e1]
  by_cases e2:v=o.getD a 0
  ·rw[if_pos e2,if_pos rfl,e2]
  ·rw[if_neg e2,fK O hv];have g:=cv O hv;rw[if_neg (λe=>e1 (by rw[<-g.2,e])),if_neg (λe=>e2 (by rw[<-g.2,e])),g.2]
def sp(n:Nat)(P:Nat->Nat->Bool):List (Nat×Nat):=(ND n).flatMap λa=>((ND n).filter λb=>decide (a≠b)&&P a b).map λb=>(a,b)
theorem sp_mem {n:Nat}{P:Nat->Nat->Bool}{p:Nat×Nat}:p∈sp n P↔p.1<n/\p.2<n/\p.1≠p.2/\P p.1 p.2=true:=by
 unfold sp;rw[Pv];constructor
 ·rintro⟨a,ha,h⟩;obtain⟨b,hb,rfl⟩:=N5.mp h;rw[OU,NQ,decide_eq_true_eq,NF] at hb;exact⟨NF.mp ha,hb.1,hb.2.1,hb.2.2⟩
 ·rintro⟨h1,h2,h3,h4⟩;refine⟨p.1,NF.mpr h1,N5.mpr ⟨p.2,?_,rfl⟩⟩;rw[OU,NQ,decide_eq_true_eq,NF];exact⟨h2,h3,h4⟩
theorem Ku(n:Nat)(P:Nat->Nat->Bool):(sp n P).Pairwise λp q=>p.1<q.1\/(p.1=q.1/\p.2<q.2):=by
 unfold sp;rw[Sv];refine⟨λa _=>?_,Pp.imp λ{a a'} hlt x hx y hy=>?_⟩
 ·rw[OY];exact(Pn _ Pp).imp λh=>.inr ⟨rfl,h⟩
 ·obtain⟨b,_,rfl⟩:=N5.mp hx;obtain⟨b',_,rfl⟩:=N5.mp hy;exact .inl hlt
theorem DR(n:Nat)(P:Nat->Nat->Bool):(sp n P).Nodup:=(Ku n P).imp λh e=>by subst e;omega
theorem Jy(n:Nat)(P:Nat->Nat->Bool):(sp n P).length<=n*n:=by
 have key: ∀(l:List Nat) (f:Nat->List (Nat×Nat)),(∀a,(f a).length<=n)->(l.flatMap f).length<=l.length*n:=by
  intro l f hf
  induction l with
  |nil=>simp
  |cons a l ih=>rw[Oj,Of,On,Tz,Vd];have:=hf a;omega
 have:=key (ND n) (λa=>((ND n).filter λb=>decide (a≠b)&&P a b).map λb=>(a,b)) λa=>by rw[NK];exact OE (Pf _ _) (by simp)
 rwa [Pc] at this
theorem GB {n:Nat}{o:List Nat}(ho:o.length=n)(P:Nat->Nat->Bool):EU P o=(sp n P).map λp=>x8 o p.1 p.2:=by
 unfold EU sp;rw[ho,Qf];congr 1;funext a;rw[N6];rfl
def f6:FS:=
 aW (Ei Cg Cg (ak lg (aa (ai 1) (aa (ai 2) (aj)))) (ai 0) (ak vf (aa (ai 1) (aa (ai 2) (aj)))))
def f8:List D->Option D:=dP .s 3 f6
def iq:FS:=
 aC (cy (gT 2 (cQ (gN 2) (cQ (gN 3) (gU)))) (pu (ai 0)))
 (aC (fB (jj (bQ (Ei J8 J8 (aD (.int 0)) (ai 1) (aw gV (ak cS (aa (ai 2) (aj))) (aD (.int 2)))))) (aW (aD (.bl false))) (skip))
 (aC (a8 4 (cz (aa (aw bo (ai 2) (ai 1)) (aa (aw bo (ai 3) (ai 1)) (aj)))))
 (aC (a8 5 (cz (aa (aw bo (ai 2) (aw bP (ai 1) (aD (.int 1)))) (aa (aw bo (ai 3) (aw bP (ai 1) (aD (.int 1)))) (aj)))))
 (aC (fB (EK (bQ (aw (kR false) (aw bo (ai 4) (aD (.int 0))) (ai 5))) (bQ (aw (kR false) (aw bo (ai 4) (aD (.int 1))) (ai 5)))) (aW (aD (.bl false))) (skip))
 (aC (a8 6 (bM 1 (cX (ai 5)) (gN 7) (fA (ak (nF 3 f8) (aa (ai 7) (aa (aw bo (ai 4) (aD (.int 0))) (aa (aw bo (ai 4) (aD (.int 1))) (aj)))))) (ai 7)))
 (aW (aw l9 (ak cS (aa (ai 6) (aj))) (aD (.int 1)))))))))
def rB:List D->Option D:=dP .s 7 iq
theorem jr {p:FT}{t:FS}{ρ:aF}(h:p ρ=some false):fB p t skip ρ=.nx ρ:=(mq h).trans rfl
theorem yE {F G:D->D->Option D}{f g h:FE}{ρ:aF}{x y z:D}{p q:Bool}(h1:f ρ=some x)(h2:g ρ=some y)(h3:F x y=some (.bl p))(h4:h ρ=some z)(h5:G y z=some (.bl q)):Ei F G f g h ρ=some (.bl (p&&q)):=by
 unfold Ei;rw[h1,NN,h2,NN,h3];show(if p=true then _ else _)=_;cases p with
 |true=>rw[if_pos rfl,h4];exact h5
 |false=>rfl
theorem JT {p q:FT}{ρ:aF}{a b:Bool}(h1:p ρ=some a)(h2:q ρ=some b):EK p q ρ=some (a||b):=by
 cases a with
 |true=>exact HP h1
 |false=>exact xY h1 h2
theorem Le {p:FT}{f g:FE}{ρ:aF}(h:p ρ=some true):Hn p f g ρ=f ρ:=by unfold Hn;rw[h];rfl
theorem KY {p:FT}{f g:FE}{ρ:aF}(h:p ρ=some false):Hn p f g ρ=g ρ:=by unfold Hn;rw[h];rfl
theorem IT {f:FE}{ρ:aF}{ds:List D}(h:f ρ=some (.tup ds)):cX f ρ=some ds:=by unfold cX;rw[h];rfl
theorem fD {f:FE}{ρ:aF}{ds:List D}(h:f ρ=some (.lst ds)):cX f ρ=some ds:=by unfold cX;rw[h];rfl
theorem KO(v a b:Nat):kR false (nI v) (.tup [nI a,nI b])=some (.bl (decide (v=a)||decide (v=b))):=by
 unfold kR pY;dsimp only;rw[show cE [nI a,nI b]=0 from hZ [a,b],if_pos (by omega)];show some (D.bl _)=_;congr 2;rw[QY,QY,List.any_nil,iX,iX,VI,Ov];simp only[PD,decide_eq_true_eq,NX,if_false];omega
structure Gd(n:Nat)(r x:List Nat):Prop where
 R:Ord n r
 X:Ord n x
 lo:2<=n
 hi:n<=6
def Ht(v a b:Nat):Bool:=decide (min a b<v)&&decide (v<max a b)
theorem Gr(v a b:Nat):f8 [nI v,nI a,nI b]=some (.bl (Ht v a b)):=by
 apply aV (kd:=.s) (n:=3) (t:=f6);unfold f6;refine aT (yE (x:=nI (min a b)) (y:=nI v) (z:=nI (max a b)) ?_ rfl ?_ ?_ ?_)
 ·refine(bD (ds:=[nI a,nI b]) rfl).trans ?_
  show some (D.int _)=some (D.int _);congr 2;split<;>omega
 ·show some (D.bl (decide (((min a b:Nat):Int)<v)))=_;congr 2;rw[Ov,decide_eq_true_eq,decide_eq_true_eq];omega
 ·refine(bD (ds:=[nI a,nI b]) rfl).trans ?_
  show some (D.int _)=some (D.int _);congr 2;split<;>omega
 ·show some (D.bl (decide ((v:Int)<((max a b:Nat):Int))))=_;congr 2;rw[Ov,decide_eq_true_eq,decide_eq_true_eq];omega
def JG(r x:List Nat)(c:Nat):Bool:= !((decide (r.getD c 0=r.getD (c+1) 0)||decide (r.getD c 0=x.getD (c+1) 0))||(decide (x.getD c 0=r.getD (c+1) 0)||decide (x.getD c 0=x.getD (c+1) 0)))&&(Ht (r.getD (c+1) 0) (r.getD c 0) (x.getD c 0)==Ht (x.getD (c+1) 0) (r.getD c 0) (x.getD c 0))
def Dp(r x:List Nat)(c:Int):Bool:=(decide (0<=c)&&decide (c<=(r.length:Int) -2))&&JG r x c.toNat
theorem GC {g:FG}{b:FS}{d e:D}{r:List D}{ρ ρ1 ρ2:aF}(h1:g d ρ=some ρ1)(h2:b ρ1=.rt e ρ2):fO g b (d::r) ρ=.rt e ρ2:=by
 show(match g d ρ with
  |none=>Out.no
  |some ρ1=>match b ρ1 with
   | .nx ρ2=>fO g b r ρ2
   | .ct ρ2=>fO g b r ρ2
   | .bk ρ2=>.nx ρ2
   | .rt d ρ2=>.rt d ρ2
   | .no=>.no)=_
 rw[h1];dsimp only;rw[h2]
set_option maxHeartbeats 1000000
set_option maxHeartbeats 4000000
set_option maxHeartbeats 1000000
theorem zW {g:FG}{b:FS}{P:Nat->aF->Prop}: ∀(k j:Nat),(∀i ρ,j<=i->i<j+k->P i ρ-> ∃ρ1 ρ2,g (nI i) ρ=some ρ1/\b ρ1=.nx ρ2/\P (i+1) ρ2)-> ∀ρ,P j ρ-> ∃ρ',fO g b ((Q6 j k).map nI) ρ=.nx ρ'/\P (j+k) ρ'
 |0,j,_,ρ,p=>⟨ρ,rfl,p⟩
 |k+1,j,h,ρ,p=>by
  obtain⟨ρ1,ρ2,h1,h2,p2⟩:=h j ρ (NT _) (by omega) p;obtain⟨ρ',e,p'⟩:=zW k (j+1) (λi ρ a b=>h i ρ (by omega) (by omega)) ρ2 p2;refine⟨ρ',?_,by rw[show j+(k+1)=j+1+k by omega];exact p'⟩;rw[Uh,NS];exact(fI h1 h2).trans e
def iQ(acc:List (List Int))(k:List Int):List (List Int):=if k∈acc then kc acc k else jZ acc k
def ox(ks:List (List Int)):List (List Int):=ks.foldl iQ []
theorem EA(acc:List (List Int))(k z:List Int):z∈iQ acc k↔(if z=k then¬z∈acc else z∈acc):=by
 unfold iQ
 by_cases h:k∈acc
 ·rw[if_pos h];unfold kc;rw[OU,decide_eq_true_eq]
  by_cases e:z=k
  ·rw[if_pos e];subst e;exact⟨λw=>absurd rfl w.2,λw=>absurd h w⟩
  ·rw[if_neg e];exact⟨λw=>w.1,λw=>⟨w,e⟩⟩
 ·rw[if_neg h];unfold jZ;rw[if_neg h,Pt,Om]
  by_cases e:z=k
  ·rw[if_pos e];subst e;exact⟨λ_=>h,λ_=>.inr rfl⟩
  ·rw[if_neg e];exact⟨λw=>w.elim id λq=>absurd q e,.inl⟩
theorem Ar {acc:List (List Int)}(nd:acc.Nodup)(k:List Int):(iQ acc k).Nodup:=by
 unfold iQ
 by_cases h:k∈acc
 ·rw[if_pos h];exact RS Vv nd
 ·rw[if_neg h];unfold jZ;rw[if_neg h,Qn];exact⟨nd,by simp,λx hx y hy e=>by rw[Om] at hy;subst hy e;exact h hx⟩
theorem vZ(acc:List (List Int))(k:List Int):(iQ acc k).length<=acc.length+1:=by
 unfold iQ jZ kc;split
 ·exact TU (Pf _ _)
 ·simp
theorem zJ: ∀(ks:List (List Int)) {acc:List (List Int)},acc.Nodup->(ks.foldl iQ acc).Nodup
 | [],_,h=>h
 |k::ks,_,h=>zJ ks (Ar h k)
theorem vU: ∀(ks acc:List (List Int)),(ks.foldl iQ acc).length<=acc.length+ks.length
 | [],acc=>by simp
 |k::ks,acc=>by
  rw[RM,On];have:=vU ks (iQ acc k);have:=vZ acc k;omega
theorem u5(z:List Int): ∀(ks acc:List (List Int)),z∈ks.foldl iQ acc↔(if z∈acc then(ks.count z) % 2=0 else(ks.count z) % 2=1)
 | [],acc=>by
   rw[List.foldl_nil,List.count_nil];split<;>simp_all
 |k::ks,acc=>by
  rw[RM,u5 z ks (iQ acc k),SZ];have h:=EA acc k z
  by_cases e:z=k
  ·rw[if_pos e] at h;have ek:(k==z)=true:=by rw[e];exact beq_self_eq_true k
   rw[ek,if_pos rfl]
   by_cases c:z∈acc
   ·rw[if_pos c,if_neg (λw=>h.mp w c)];omega
   ·rw[if_neg c,if_pos (h.mpr c)];omega
  ·rw[if_neg e] at h;have ek:(k==z)=false:=by rw[beq_eq_false_iff_ne];exact λw=>e w.symm
   rw[ek];simp only[NX,if_false,S7]
   by_cases c:z∈acc
   ·rw[if_pos c,if_pos (h.mpr c)]
   ·rw[if_neg c,if_neg (λw=>c (h.mp w))]
theorem pg(ks:List (List Int))(z:List Int):z∈ox ks↔(ks.count z) % 2=1:=by
 have:=u5 z ks [];rw[if_neg (by simp)] at this;exact this
theorem xr(ks:List (List Int)):(ox ks).Nodup:=zJ ks Vf
theorem pk(ks:List (List Int)):(ox ks).length<=ks.length:=by
 have:=vU ks [];unfold ox;simpa using this
theorem Jh {ks:List (List Int)}{z:List Int}(h:z∈ox ks):z∈ks:=by
 have:=(pg ks z).mp h;exact PV.mp (by omega)
def cn(ks:List (List Int)):List (List Int):=bj bu (ox ks)
theorem ss {ks l:List (List Int)}(nd:l.Nodup)(h: ∀z,z∈l↔(ks.count z) % 2=1):bj bu l=cn ks:=
 iM ((Ou nd (xr ks)).mpr λz=>(h z).trans (pg ks z).symm)
theorem xh {g:FG}{i:Nat}{st:List (List Int)->Sl->aF}{fk:FE}(hg: ∀acc s d,g d (st acc s)=some (st acc (.v d)))(hk: ∀acc d,fk (st acc (.v d))=some d)(ht: ∀acc s,vb i (st acc s)=some acc)(hs: ∀acc acc' s,(st acc s).set i (.ob (.tset acc'))=st acc' s):
 ∀(ks acc:List (List Int)) (s:Sl),acc.length+ks.length<=1000-> ∃s',fO g (fB (AR i fk) (cu (rm kc i fk)) (cu (rm jZ i fk))) (ks.map de) (st acc s)=.nx (st (ks.foldl iQ acc) s')
 | [],acc,s,_=>⟨s,rfl⟩
 |k::ks,acc,s,hl=>by
  rw[On] at hl;obtain⟨s',h⟩:=xh hg hk ht hs ks (iQ acc k) (.v (de k)) (by have:=vZ acc k;omega);have kk:(fk (st acc (.v (de k)))).bind Ck=some k:=by rw[hk];exact mU k
  have din:AR i fk (st acc (.v (de k)))=some (decide (k∈acc)):=by
   unfold AR;rw[ht,NN,kk];rfl
  have op: ∀f,cu (rm f i fk) (st acc (.v (de k)))=.nx (st (f acc k) (.v (de k))):=λf=>by
   unfold cu rm;rw[ht,NN,kk,NN,if_pos (by omega),hs]
  refine⟨s',?_⟩;rw[NS];refine(fI (ρ1:=st acc (.v (de k))) (hg _ _ _) (ρ2:=st (iQ acc k) (.v (de k))) ?_).trans h;unfold iQ
  by_cases c:k∈acc
  ·rw[if_pos c,gF (din.trans (by rw[decide_eq_true c]))];exact op _
  ·rw[if_neg c,mq (din.trans (by rw[decide_eq_false c]))];exact op _
theorem JM {ks:List (List Int)}(hl:ks.length<64)(hk: ∀k∈ks,k≠[]):dP .n 3 (aC (CI 1)
 (aC (jn (cN (cX (ai 0))) (gN 2) (fB (AR 1 (ai 2)) (cu (rm kc 1 (ai 2))) (cu (rm jZ 1 (ai 2)))))
 (aW (zO 1)))) [.lst (ks.map de)]=some (.lst ((cn ks).map de)):=by
 obtain⟨s',h⟩:=xh (g:=gN 2) (i:=1) (fk:=ai 2) (st:=λacc s=>[.v (.lst (ks.map de)),.ob (.tset acc),s]) (λ_ _ _=>rfl) (λ_ _=>rfl) (λ_ _=>rfl) (λ_ _ _=>rfl) ks [] .no (by simp;omega);apply aV;refine(aA (ρ':=[.v (.lst (ks.map de)),.ob (.tset []),.no]) rfl).trans ((aA ((js (cF (fD rfl))).trans h)).trans (aT ?_));unfold zO;show(some (ks.foldl iQ [])).bind _=_;rw[NN];have:=pk ks;unfold ox at this;rw[if_pos ⟨by omega,λk hk'=>hk k (Jh hk')⟩];rfl
section
variable {n:Nat}{r x:List Nat}(h1:r.length=n)(h2:x.length=n)(h3:2<=n)(h4:n<=6)
include h1 h2 h3 h4
theorem GP(c:Int):rB [c6 r x,.int c]=some (.bl (Dp r x c)):=by
 apply qN (kd:=.s) (n:=7) (t:=iq);unfold iq Dp;have s1:cy (gT 2 (cQ (gN 2) (cQ (gN 3) (gU)))) (pu (ai 0)) (ka 7 [c6 r x,.int c])=.nx [.v (c6 r x),.v (.int c),.v (ay r),.v (ay x),.no,.no,.no]:=dS (fU rfl) rfl;rw[aA s1];have p1:jj (bQ (Ei J8 J8 (aD (.int 0)) (ai 1) (aw gV (ak cS (aa (ai 2) (aj))) (aD (.int 2))))) [.v (c6 r x),.v (.int c),.v (ay r),.v (ay x),.no,.no,.no]=some (!(decide (0<=c)&&decide (c<=(r.length:Int) -2))):=
  lU (bY (yE (x:=.int 0) (y:=.int c) (z:=.int ((r.length:Int) -2)) rfl rfl rfl ((aB (gx r _ _ rfl) (y:=.int 2) rfl).trans (iI _ _)) rfl))
 by_cases hc:0<=c/\c<=(r.length:Int) -2
 ·have e:(decide (0<=c)&&decide (c<=(r.length:Int) -2))=true:=by rw[NQ,decide_eq_true_eq,decide_eq_true_eq];exact hc
  rw[e] at p1⊢;rw[OB];rw[aA (jr p1)];obtain⟨c,rfl⟩: ∃m:Nat,c=m:=⟨c.toNat,by omega⟩
  rw[PL];have ad: ∀ρ:aF,ai 1 ρ=some (nI c)->aw bP (ai 1) (aD (.int 1)) ρ=some (nI (c+1)):=λρ h=>(aB h (y:=.int 1) rfl).trans (Ce c)
  rw[aA (ρ':=[.v (c6 r x),.v (.int c),.v (ay r),.v (ay x),.v (.tup [nI (r.getD c 0),nI (x.getD c 0)]),.no,.no]) ((bd (ck (al ((aB (x:=ay r) (y:=nI c) rfl rfl).trans (gb (by omega))) (al ((aB (x:=ay x) (y:=nI c) rfl rfl).trans (gb (by omega))) rfl)) (by simp))).trans rfl)];rw[aA (ρ':=[.v (c6 r x),.v (.int c),.v (ay r),.v (ay x),.v (.tup [nI (r.getD c 0),nI (x.getD c 0)]),.v (.tup [nI (r.getD (c+1) 0),nI (x.getD (c+1) 0)]),.no]) ((bd (ck (al ((aB (x:=ay r) rfl (ad _ rfl)).trans (gb (by omega))) (al ((aB (x:=ay x) rfl (ad _ rfl)).trans (gb (by omega))) rfl)) (by simp))).trans rfl)];have p2:EK (bQ (aw (kR false) (aw bo (ai 4) (aD (.int 0))) (ai 5))) (bQ (aw (kR false) (aw bo (ai 4) (aD (.int 1))) (ai 5))) [.v (c6 r x),.v (.int c),.v (ay r),.v (ay x),.v (.tup [nI (r.getD c 0),nI (x.getD c 0)]),.v (.tup [nI (r.getD (c+1) 0),nI (x.getD (c+1) 0)]),.no]=some ((decide (r.getD c 0=r.getD (c+1) 0)||decide (r.getD c 0=x.getD (c+1) 0))||(decide (x.getD c 0=r.getD (c+1) 0)||decide (x.getD c 0=x.getD (c+1) 0))):=
   JT (bY ((aB (x:=nI (r.getD c 0)) (y:=.tup [nI (r.getD (c+1) 0),nI (x.getD (c+1) 0)]) rfl rfl).trans (KO _ _ _))) (bY ((aB (x:=nI (x.getD c 0)) (y:=.tup [nI (r.getD (c+1) 0),nI (x.getD (c+1) 0)]) rfl rfl).trans (KO _ _ _)))
  unfold JG;revert p2;generalize ((decide (r.getD c 0=r.getD (c+1) 0)||decide (r.getD c 0=x.getD (c+1) 0))||(decide (x.getD c 0=r.getD (c+1) 0)||decide (x.getD c 0=x.getD (c+1) 0)))=pb;intro p2;cases pb with
  |true=>
   exact⟨_,nW ((gF p2).trans rfl)⟩
  |false=>
   rw[aA (jr p2)];generalize hA:r.getD (c+1) 0=A;generalize hB:x.getD (c+1) 0=B;generalize hU:r.getD c 0=U;generalize hV:x.getD c 0=V;have cp:bM 1 (cX (ai 5)) (gN 7) (fA (ak (nF 3 f8) (aa (ai 7) (aa (aw bo (ai 4) (aD (.int 0))) (aa (aw bo (ai 4) (aD (.int 1))) (aj)))))) (ai 7) [.v (c6 r x),.v (.int c),.v (ay r),.v (ay x),.v (.tup [nI U,nI V]),.v (.tup [nI A,nI B]),.no]=some (.lst ((([A,B]:List Nat).filter λv=>Ht v U V).map nI)):=
    c9 (ds:=([A,B]:List Nat).map nI) (IT rfl) (by simp) (iE (h:=nI) (o:=nI) (q:=λv=>Ht v U V) ([A,B]:List Nat) λv _=>⟨_,rfl,jd ((aN (ds:=[nI v,nI U,nI V]) rfl rfl).trans (Gr v U V)),λ_=>rfl⟩)
   refine⟨_,(aA ((bd cp).trans rfl)).trans (aT ?_)⟩;refine(aB (vy _ _ _ rfl) (y:=.int 1) rfl).trans ?_
   rw[jW (by rw[fM];omega),jb];congr 2;cases e1:Ht A U V<;>cases e2:Ht B U V<;>simp[jaS,e1,e2]
 ·have e:(decide (0<=c)&&decide (c<=(r.length:Int) -2))=false:=by rw[TZ,Ne,NQ,decide_eq_true_eq,decide_eq_true_eq];exact hc
  rw[e] at p1⊢;exact⟨_,nW ((gF p1).trans rfl)⟩
end
def B8(n a b:Nat):Nat:=Nat.div (cond (Zp a b) (QJ (QK (QK 2 n) b) (QK (QK 2 n) a)) (QJ (SM (QJ (QK (QK 2 n) n) (QK (QK 2 n) a)) (QK (QK 2 n) b)) 1)) (QJ (QK 2 n) 1)
def En(n a b:Nat):Nat:=cond (Zp a b) (QJ (QK 2 b) (QK 2 a)) (QJ (SM (QJ (QK 2 n) (QK 2 a)) (QK 2 b)) 1)
def jR(n:Nat)(s:List Nat)(a b:Nat):Nat:=So (B8 n a b) (En n (s.getD a 0) (s.getD b 0))
def kU(m i:Nat):Bool:=PU (Nat.land (Nat.shiftRight m i) 1) 1
def oR(n a m:Nat):Nat->List Nat->Bool
 |_,[]=>true
 |x,y::r=>and (or (PU x a) (not (kU m (SM (So n x) y)))) (oR n a m (QE x) r)
def J0 {α:Type}(n:Nat)(f:Nat->α):α:=Nat.rec (f 0) (λk _=>f (QE k)) n
def EJ {α:Type}:List Nat->(List Nat->α)->α
 | [],f=>f []
 |a::r,f=>J0 a λa'=>EJ r λr'=>f (a'::r')
def EI(n:Nat)(s:List Nat):List ((Nat×Nat)×Nat):=(ND n).flatMap λa=>((ND n).map λb=>((a,b),jR n s a b)).filter λe=>and (not (PU a e.1.2)) (oR n a e.2 0 s)
def Fh(n a b x:Nat):Bool:=Nat.blt (Nat.mod (QJ (SM x n) a) n) (Nat.mod (QJ (SM b n) a) n)
def Np(u v:Bool):Bool:=cond u v (not v)
def Bk(n:Nat):Bool:=(ND n).all λa=>(ND n).all λb=>(ND n).all λp=>(ND n).all λq=>and (Nat.blt (So (B8 n a b) (En n p q)) (QK 2 (So n n))) ((ND n).all λx=>(ND n).all λy=>Np (kU (So (B8 n a b) (En n p q)) (SM (So n x) y)) (and (Fh n a b x) (Fh n p q y)))
theorem MU:Bk 3=true:=by decide+kernel
theorem L8:Bk 4=true:=by decide+kernel
theorem Mb:Bk 5=true:=by decide+kernel
theorem MW:Bk 6=true:=by decide+kernel
theorem Iz {n:Nat}(h3:3<=n)(h6:n<=6):Bk n=true:=by
 have:n=3\/n=4\/n=5\/n=6:=by omega
 rcases this with rfl|rfl|rfl|rfl
 ·exact MU
 ·exact L8
 ·exact Mb
 ·exact MW
theorem qz {n a:Nat}(h:0<n)(ha:a<n)(b x:Nat):Fh n a b x=bC n a b x:=by
 have key: ∀z:Nat,((z:Int) -a) % n=(((z+n-a) % n:Nat):Int):=λz=>by
  rw[Qe,show((z+n-a:Nat):Int)=((z:Int) -a)+n by omega,RV]
 unfold Fh bC;rw[key,key,Ov,decide_eq_true_eq,Int.ofNat_lt];exact iff_of_eq Nat.blt_eq
theorem gZ(m i:Nat):kU m i=m.testBit i:=by
 unfold kU;rw[Nat.testBit_eq_decide_div_mod_eq,Ov,decide_eq_true_eq,Nat.beq_eq,<-Nat.shiftRight_eq_div_pow,<-Nat.and_one_is_mod];exact Wo
theorem Im {u v:Bool}(h:Np u v=true):u=v:=by cases u<;>cases v<;>first|rfl|exact absurd h (by decide)
theorem Ip {n a b p q:Nat}(h3:3<=n)(h6:n<=6)(ha:a<n)(hb:b<n)(hp:p<n)(hq:q<n):B8 n a b*En n p q<2^(n*n)/\ ∀x y,x<n->y<n->(B8 n a b*En n p q).testBit (n*x+y)=(bC n a b x&&bC n p q y):=by
 have h:=Iz h3 h6;unfold Bk at h;have R: ∀ {z:Nat},z<n->z∈ND n:=λhz=>NF.mpr hz
 have h1:=NW.mp (NW.mp (NW.mp (NW.mp h a (R ha)) b (R hb)) p (R hp)) q (R hq);obtain⟨h2,h4⟩:=(Vg).mp h1;refine⟨Nat.blt_eq.mp h2,λx y hx hy=>?_⟩;have h5:=Im (NW.mp (NW.mp h4 x (R hx)) y (R hy));rw[gZ,qz (by omega) ha,qz (by omega) hp] at h5;exact h5
theorem GS {α β:Type}{f g:α->List β}{l:List α}(h: ∀a∈l,f a=g a):l.flatMap f=l.flatMap g:=by rw[WG,WG,Oq h]
theorem ly {α:Type}(n:Nat)(f:Nat->α):J0 n f=f n:=by cases n<;>rfl
theorem tw {α:Type}: ∀(l:List Nat) (f:List Nat->α),EJ l f=f l
 | [],_=>rfl
 |a::r,f=>by unfold EJ;rw[ly,tw r]
theorem sN {n a m:Nat}: ∀(l:List Nat) (k:Nat),oR n a m k l=true↔ ∀i,i<l.length->k+i≠a->m.testBit (n*(k+i)+l.getD i 0)=false
 | [],k=>by simp[oR]
 |y::r,k=>by
  unfold oR;rw[Vg,sN r,gZ,Bool.or_eq_true_iff,O0,Nat.beq_eq];constructor
  ·rintro⟨h1,h2⟩ i hi hk;cases i with
   |zero=>rcases h1 with h1|h1
          ·exact absurd h1 hk
          ·exact h1
   |succ i=>
    have:=h2 i (by simpa using hi) (by omega);rw[show k+(i+1)=k.succ+i by omega];simpa using this
  ·intro h;refine⟨?_,λi hi hk=>?_⟩
   ·by_cases e:k=a
    ·exact .inl e
    ·exact .inr (h 0 (by simp) e)
   ·have:=h (i+1) (by simpa using hi) (by omega);rw[show k+(i+1)=k.succ+i by omega] at this;simpa using this
theorem Hx {n:Nat}{o:List Nat}(h3:3<=n)(h6:n<=6)(O:Ord n o){a b:Nat}(ha:a<n)(hb:b<n):jR n o a b<2^(n*n)/\ ∀x y,x<n->y<n->(jR n o a b).testBit (n*x+y)=(bC n a b x&&bC n (o.getD a 0) (o.getD b 0) y):=Ip h3 h6 ha hb (O.get ha) (O.get hb)
theorem Ko {n:Nat}{o:List Nat}(h3:3<=n)(h6:n<=6)(O:Ord n o){a b:Nat}(ha:a<n)(hb:b<n)(ne:a≠b):oR n a (jR n o a b) 0 o=bJ o a b:=by
 rw[Ov,sN,iC O ha hb ne,O.len];have B:=(Hx h3 h6 O ha hb).2;constructor
 ·rintro h x hx ⟨i1,i2,i3,i4⟩;have:=h x hx (by omega);rw[Qt,B x _ hx (O.get hx),i1,i3] at this;exact absurd this (by decide)
 ·intro h x hx hk;rw[Qt] at hk⊢;rw[B x _ hx (O.get hx)];cases i1:bC n a b x with
  |false=>rfl
  |true=>
   cases i3:bC n (o.getD a 0) (o.getD b 0) (o.getD x 0) with
   |false=>rfl
   |true=>exact absurd ⟨i1,hk,i3,λe=>hk (O.inj hx ha e)⟩ (h x hx)
theorem FQ {n:Nat}{o:List Nat}(h3:3<=n)(h6:n<=6)(O:Ord n o):EI n o=(sp n (bJ o)).map λp=>(p,jR n o p.1 p.2):=by
 unfold EI sp;rw[Qf];refine GS λa ha=>?_
 have ha:=NF.mp ha;rw[List.filter_map,N6];have:(ND n).filter ((λe:(Nat×Nat)×Nat=>and (not (PU a e.1.2)) (oR n a e.2 0 o))∘λb=>((a,b),jR n o a b))=(ND n).filter λb=>decide (a≠b)&&bJ o a b:=by
  refine List.filter_congr λb hb=>?_
  have hb:=NF.mp hb;show and (not (PU a b)) (oR n a (jR n o a b) 0 o)=_
  by_cases e:a=b
  ·subst e;simp
  ·have:PU a b=false:=by cases h:PU a b with
    |false=>rfl
    |true=>exact absurd (Rs h) e
   rw[Ko h3 h6 O ha hb e,this];simp[e]
 rw[this];rfl
theorem Ord.exx {n:Nat}{o:List Nat}(O:Ord n o){a b:Nat}(ha:a<n)(hb:b<n):Ord n (br o a b):=⟨(swap_perm o a b (by rw[O.len];exact ha) (by rw[O.len];exact hb)).trans O.perm⟩
def rh(n:Nat)(o:List Nat)(p:Nat×Nat)(x y:Nat):Bool:=bC n p.1 p.2 x&&bC n (o.getD p.1 0) (o.getD p.2 0) y
section
variable {n:Nat}{o o':List Nat}{t u:Nat->Nat}
theorem Ao(T:Mv n t)(U:Mv n u)(O:Ord n o)(O':Ord n o')(ho: ∀c,c<n->o'.getD (t c) 0=u (o.getD c 0)){a b:Nat}(ha:a<n)(hb:b<n)(ne:a≠b):bJ o' (t a) (t b)=bJ o a b:=by
 rw[Ov,iC O' (T.lt a ha) (T.lt b hb) λe=>ne (T.inj a b ha hb e),iC O ha hb ne,ho a ha,ho b hb];have one: ∀c,c<n->((bC n (t a) (t b) (t c)=true/\t c≠t a/\bC n (u (o.getD a 0)) (u (o.getD b 0)) (o'.getD (t c) 0)=true/\o'.getD (t c) 0≠u (o.getD a 0))↔(bC n a b c=true/\c≠a/\bC n (o.getD a 0) (o.getD b 0) (o.getD c 0)=true/\o.getD c 0≠o.getD a 0)):=λc hc=>by
  rw[T.inb a b c ha hb hc,ho c hc,U.inb _ _ _ (O.get ha) (O.get hb) (O.get hc)];refine and_congr Wo (and_congr ⟨λh e=>h (e▸rfl),λh e=>h (T.inj _ _ hc ha e)⟩ (and_congr Wo ⟨λh e=>h (by rw[e]),λh e=>h (U.inj _ _ (O.get hc) (O.get ha) e)⟩))
 constructor
 ·exact λh c hc k=>h (t c) (T.lt c hc) ((one c hc).mpr k)
 ·intro h c hc;obtain⟨d,hd,rfl⟩:=T.sur c hc;exact λk=>h d hd ((one d hd).mp k)
theorem LC(T:Mv n t)(U:Mv n u)(O:Ord n o)(ho: ∀c,c<n->o'.getD (t c) 0=u (o.getD c 0)){a b x y:Nat}(ha:a<n)(hb:b<n)(hx:x<n)(hy:y<n):rh n o' (t a,t b) (t x) (u y)=rh n o (a,b) x y:=by
 unfold rh;rw[T.inb a b x ha hb hx,ho a ha,ho b hb,U.inb _ _ y (O.get ha) (O.get hb) hy]
theorem Cd {a b:Nat}:PU a b=decide (a=b):=by
 by_cases h:a=b
 ·subst h;simp
 ·rw[decide_eq_false h];cases e:PU a b with
  |false=>rfl
  |true=>exact absurd (Rs e) h
end
theorem BD {n:Nat}{r x o:List Nat}(O:Ord n o)(R:Ord n r)(X:Ord n x){a b:Nat}:oO r x o a b=true↔ ∀c,c<n->rh n o (a,b) c (r.getD c 0)=false/\rh n o (a,b) c (x.getD c 0)=false:=by
 unfold oO rh;rw[O.len,O0,QU];simp only[plF_mem,PD,decide_eq_true_eq,not_or,not_and,Sw];constructor
 ·intro h c hc;cases i:bC n a b c with
  |false=>exact⟨.inl rfl,.inl rfl⟩
  |true=>
   obtain⟨k1,k2⟩:=h c ⟨hc,i⟩;exact⟨.inr (TZ.mpr (k1 (R.get hc))),.inr (TZ.mpr (k2 (X.get hc)))⟩
 ·intro h c hc;obtain⟨k1,k2⟩:=h c hc.1;refine⟨λ_=>?_,λ_=>?_⟩
  ·rcases k1 with k1|k1
   ·rw[hc.2] at k1;cases k1
   ·rw[k1];decide
  ·rcases k2 with k2|k2
   ·rw[hc.2] at k2;cases k2
   ·rw[k2];decide
def tF:List Nat->Nat
 | []=>1
 |a::r=>SM (So 8 (tF r)) a
def Bz(n:Nat):Nat:=QJ (QK 2 (So n (QJ n 1))) (QK 2 n)
abbrev TK:=List Nat->Nat->Nat->Nat->Bool
def HL(n A1 A2 B1 B2:Nat):TK:=λ_ _ _ m=>and (not (kU m A1)) (and (not (kU m A2)) (and (not (kU m (SM (So n (QJ n 1)) B1))) (not (kU m (SM (So n (QJ n 1)) B2)))))
def jO(n T:Nat):Nat:=Nat.mod (QE T) n
def KT(n s e A1 A2:Nat):Bool:=and (not (Fh n s e A1)) (not (Fh n s e A2))
def Lf(n T A1 A2 B1 B2:Nat):TK:=λs a b _=>and (or (PU a 0) (PU b 0)) (and (Fh n (s.getD a 0) (s.getD b 0) T) (and (KT n (s.getD a 0) (jO n T) A1 A2) (KT n (jO n T) (s.getD b 0) B1 B2)))
def IM(n:Nat)(s:List Nat)(F G:TK):List (Nat×Nat):=((EI n s).filter λe=>F s e.1.1 e.1.2 e.2).flatMap λe=>EJ (br s e.1.1 e.1.2) λs'=>((EI n s').filter λe'=>G s' e'.1.1 e'.1.2 e'.2).map λe'=>(tF (br s' e'.1.1 e'.1.2),Nat.land (Nat.lor e.2 e'.2) (Bz n))
def Mp(a b:Nat×Nat):Bool:=and (PU a.1 b.1) (PU a.2 b.2)
def J3(e:Nat×Nat):List (Nat×Nat)->Option (List (Nat×Nat))
 | []=>none
 |a::l=>cond (Mp a e) (some l) (match J3 e l with|some l'=>some (a::l')|none=>none)
def LM(e:Nat×Nat)(l:List (Nat×Nat)):List (Nat×Nat):=match J3 e l with|some l'=>l'|none=>e::l
def Fk:List (Nat×Nat)->List (Nat×Nat)->List (Nat×Nat)
 | [],acc=>acc
 |e::l,acc=>J0 e.1 λk=>J0 e.2 λm=>Fk l (LM (k,m) acc)
def Nj(n x m:Nat):Bool:=(ND n).all λy=>kU m (SM (So n x) y)
def Nl(n y m:Nat):Bool:=(ND n).all λx=>or (PU x 0) (or (PU (QE x) n) (kU m (SM (So n x) y)))
def JZ(n m:Nat):Bool:=or ((ND n).any λx=>and (not (or (PU x 0) (PU (QE x) n))) (Nj n x m)) ((ND n).any λy=>Nl n y m)
def nG(n r1 q l:Nat)(s:List Nat):List (Nat×Nat):=IM n s (HL n r1 q (QJ n 1) l) (Lf n (QJ n 1) r1 q (QJ n 1) l)++IM n s (Lf n (QJ n 1) r1 q (QJ n 1) l) (HL n (QJ n 1) l r1 q)
def LP(n:Nat):List (Nat×Nat)->List (Nat×Nat)->Nat->Bool
 | [],acc,k=>and (Zp k 63) (acc.all λe=>JZ n e.2)
 |e::l,acc,k=>J0 e.1 λc=>J0 e.2 λm=>LP n l (LM (c,m) acc) (QE k)
def mM(n:Nat)(L:List (Nat×Nat)):Bool:=LP n L [] 0
def lh(n:Nat)(P:List Nat->Bool):Nat->List Nat->Bool
 |0,s=>EJ s P
 |k+1,s=>(ND n).all λh=>or (decide (h∈s)) (lh n P k (s++[h]))
theorem KJ:lh 4 (λs=>mM 4 (nG 4 0 1 2 s)) 4 []=true:=by decide+kernel
theorem u6:lh 5 (λs=>mM 5 (nG 5 0 1 2 s)) 4 [0]=true:=by decide+kernel
theorem wW:lh 5 (λs=>mM 5 (nG 5 0 1 2 s)) 4 [1]=true:=by decide+kernel
theorem vI:lh 5 (λs=>mM 5 (nG 5 0 1 2 s)) 4 [2]=true:=by decide+kernel
theorem wU:lh 5 (λs=>mM 5 (nG 5 0 1 2 s)) 4 [3]=true:=by decide+kernel
theorem wV:lh 5 (λs=>mM 5 (nG 5 0 1 2 s)) 4 [4]=true:=by decide+kernel
theorem vh:lh 5 (λs=>mM 5 (nG 5 0 1 3 s)) 4 [0]=true:=by decide+kernel
theorem vg:lh 5 (λs=>mM 5 (nG 5 0 1 3 s)) 4 [1]=true:=by decide+kernel
theorem vE:lh 5 (λs=>mM 5 (nG 5 0 1 3 s)) 4 [2]=true:=by decide+kernel
theorem vm:lh 5 (λs=>mM 5 (nG 5 0 1 3 s)) 4 [3]=true:=by decide+kernel
theorem wY:lh 5 (λs=>mM 5 (nG 5 0 1 3 s)) 4 [4]=true:=by decide+kernel
theorem vA:lh 5 (λs=>mM 5 (nG 5 0 2 3 s)) 4 [0]=true:=by decide+kernel
theorem wF:lh 5 (λs=>mM 5 (nG 5 0 2 3 s)) 4 [1]=true:=by decide+kernel
theorem xb:lh 5 (λs=>mM 5 (nG 5 0 2 3 s)) 4 [2]=true:=by decide+kernel
theorem ve:lh 5 (λs=>mM 5 (nG 5 0 2 3 s)) 4 [3]=true:=by decide+kernel
theorem vO:lh 5 (λs=>mM 5 (nG 5 0 2 3 s)) 4 [4]=true:=by decide+kernel
theorem wC:lh 5 (λs=>mM 5 (nG 5 1 2 3 s)) 4 [0]=true:=by decide+kernel
theorem vd:lh 5 (λs=>mM 5 (nG 5 1 2 3 s)) 4 [1]=true:=by decide+kernel
theorem vn:lh 5 (λs=>mM 5 (nG 5 1 2 3 s)) 4 [2]=true:=by decide+kernel
theorem vY:lh 5 (λs=>mM 5 (nG 5 1 2 3 s)) 4 [3]=true:=by decide+kernel
theorem wN:lh 5 (λs=>mM 5 (nG 5 1 2 3 s)) 4 [4]=true:=by decide+kernel
theorem m6 {n k:Nat}{P:List Nat->Bool}{s:List Nat}(h: ∀x,x<n->x∉s->lh n P k (s++[x])=true):lh n P (k+1) s=true:=by
 unfold lh;refine NW.mpr λx hx=>?_
 by_cases e:x∈s
 ·rw[decide_eq_true e];rfl
 ·rw[h x (NF.mp hx) e];exact Bool.or_true _
theorem zY {p:Nat->Prop}(h0:p 0)(h1:p 1)(h2:p 2)(h3:p 3)(h4:p 4)(x:Nat)(hx:x<5):p x:=by
 have e:x=0\/x=1\/x=2\/x=3\/x=4:=by omega
 rcases e with rfl|rfl|rfl|rfl|rfl
 ·exact h0
 ·exact h1
 ·exact h2
 ·exact h3
 ·exact h4
theorem C7 {n:Nat}{P:List Nat->Bool}: ∀(k:Nat) (s u:List Nat),lh n P k s=true->u.length=k->(s++u).Nodup->(∀v∈s++u,v<n)->P (s++u)=true
 |0,s,u,h,hl,_,_=>by
  have:u=[]:=List.length_eq_zero_iff.mp hl;subst this;unfold lh at h;rw[tw] at h;rw[O2];exact h
 |k+1,s,[],h,hl,_,_=>by cases hl
 |k+1,s,v::u,h,hl,nd,lt=>by
  unfold lh at h;have hv:=lt v (by simp);have:=NW.mp h v (NF.mpr hv);have nv:v∉s:=λw=>by
   rw[Qn] at nd;exact nd.2.2 v w v Oe rfl
  rw[decide_eq_false nv,RL] at this;have r:=C7 k (s++[v]) u this (by simpa using hl) (by simpa using nd) (by simpa using lt);simpa using r
theorem Nh {n r1 q l:Nat}(h4:4<=n)(h5:n<=5)(h1:r1<q)(h2:q<l)(h3:l+1<n){s:List Nat}(O:Ord n s):mM n (nG n r1 q l s)=true:=by
 refine C7 (P:=λs=>mM n (nG n r1 q l s)) n [] s ?_ O.len (by rw[WV];exact O.perm.nodup_iff.mpr Oh) (λv hv=>O.lt hv);have en:n=4\/n=5:=by omega
 rcases en with rfl|rfl
 ·obtain⟨rfl,rfl,rfl⟩:r1=0/\q=1/\l=2:=by omega
  exact KJ
 ·have e:(r1=0/\q=1/\l=2)\/(r1=0/\q=1/\l=3)\/(r1=0/\q=2/\l=3)\/(r1=1/\q=2/\l=3):=by omega
  rcases e with⟨rfl,rfl,rfl⟩|⟨rfl,rfl,rfl⟩|⟨rfl,rfl,rfl⟩|⟨rfl,rfl,rfl⟩
  ·exact m6 λx hx _=>zY (p:=λx=>lh 5 (λs=>mM 5 (nG 5 0 1 2 s)) 4 [x]=true) u6 wW vI wU wV x hx
  ·exact m6 λx hx _=>zY (p:=λx=>lh 5 (λs=>mM 5 (nG 5 0 1 3 s)) 4 [x]=true) vh vg vE vm wY x hx
  ·exact m6 λx hx _=>zY (p:=λx=>lh 5 (λs=>mM 5 (nG 5 0 2 3 s)) 4 [x]=true) vA wF xb ve vO x hx
  ·exact m6 λx hx _=>zY (p:=λx=>lh 5 (λs=>mM 5 (nG 5 1 2 3 s)) 4 [x]=true) wC vd vn vY wN x hx
theorem Gf(f:List Int->Nat){acc:List (List Int)}(nd:acc.Nodup){k:List Int}(h:k∈acc):((kc acc k).map f).sum+f k=(acc.map f).sum:=by
 unfold kc
 induction acc with
 |nil=>cases h
 |cons a l ih=>
  rw[PQ] at nd
  by_cases e:a=k
  ·subst e;have:l.filter (λz=>decide (z≠a))=l:=OW.mpr λz hz=>decide_eq_true λw=>nd.1 (w▸hz)
   rw[Q4 (by simp),this,NS,OC];omega
  ·have hk:k∈l:=(Oc.mp h).resolve_left λw=>e w.symm
   rw[Q5 (by simpa using e),NS,OC,NS,OC];have:=ih nd.2 hk;omega
theorem Dg(f:List Int->Nat){acc:List (List Int)}(nd:acc.Nodup)(k:List Int):((iQ acc k).map f).sum % 2=((acc.map f).sum+f k) % 2:=by
 unfold iQ
 by_cases h:k∈acc
 ·rw[if_pos h];have:=Gf f nd h;omega
 ·rw[if_neg h];unfold jZ;rw[if_neg h,O3,UN];simp
theorem wD(f:List Int->Nat): ∀(ks:List (List Int)) {acc:List (List Int)},acc.Nodup->((ks.foldl iQ acc).map f).sum % 2=((acc.map f).sum+(ks.map f).sum) % 2
 | [],acc,_=>by simp
 |k::ks,acc,nd=>by
  rw[RM,wD f ks (Ar nd k),NS,OC];have:=Dg f nd k;omega
theorem Hi(f:List Int->Nat)(ks:List (List Int)):((ox ks).map f).sum % 2=((ks.map f).sum) % 2:=by
 have:=wD f ks Vf;unfold ox;simpa using this
theorem qm {l m:List Nat}(p:l.Perm m):l.sum=m.sum:=by
 induction p with
 |nil=>rfl
 |cons x _ ih=>rw[OC,OC,ih]
 |swap x y l=>simp only[OC];omega
 |trans _ _ h1 h2=>rw[h1,h2]
theorem GM(f:List Int->Nat)(ks:List (List Int)):((cn ks).map f).sum % 2=((ks.map f).sum) % 2:=by
 unfold cn;rw[qm ((aS (lt:=bu) (ox ks)).map f),Hi]
theorem dW {α:Type}(z:List Int)(g:α->List (List Int)): ∀l:List α,(l.flatMap g).count z=(l.map λy=>(g y).count z).sum
 | []=>rfl
 |a::l=>by rw[Oj,List.count_append,dW z g l,NS,OC]
def zs(l:List Nat):List Int:=l.map Vm
def uz(k:List Int):List Nat:=k.map Uo
theorem iG(l:List Nat):uz (zs l)=l:=by
 unfold uz zs;rw[N6];exact(Oq λa _=>rfl).trans (T0 l)
theorem Jq {a b:List Nat}(h:zs a=zs b):a=b:=by rw[<-iG a,h,iG]
def eI(n:Nat)(r x:List Nat)(k:List Int):List (List Int):=(sp n (cg r x (uz k))).map λp=>zs (br (uz k) p.1 p.2)
def bK(n:Nat)(r x:List Nat)(K:List (List Int)):List (List Int):=K.flatMap (eI n r x)
def J9(n:Nat)(r x:List Nat)(K:List (List Int)):List (List Int):=cn (bK n r x K)
def jK(n:Nat)(K:List (List Int)):Prop:= ∀k∈K,∃o,Ord n o/\k=zs o
theorem Ix {n:Nat}{r x o:List Nat}(O:Ord n o):jK n (eI n r x (zs o)):=λk hk=>by
 unfold eI at hk;rw[iG] at hk;obtain⟨p,hp,rfl⟩:=N5.mp hk;obtain⟨h1,h2,_⟩:=sp_mem.mp hp;exact⟨_,O.exx h1 h2,rfl⟩
theorem xw {n:Nat}{r x:List Nat}{K:List (List Int)}(h:jK n K):jK n (bK n r x K):=λk hk=>by
 obtain⟨y,hy,hk⟩:=Pv.mp hk;obtain⟨o,O,rfl⟩:=h y hy;exact Ix O k hk
theorem mem_oddSrt {ks:List (List Int)}{z:List Int}:z∈cn ks↔ks.count z % 2=1:=by
 unfold cn;rw[(aS (lt:=bu) (ox ks)).mem_iff,pg]
theorem sn(ks:List (List Int)):(cn ks).Nodup:=by
 unfold cn;rw[(aS (lt:=bu) (ox ks)).nodup_iff];exact xr ks
theorem tX {n:Nat}{r x:List Nat}{K:List (List Int)}(h:jK n K):jK n (J9 n r x K):=λk hk=>by
 have h1:(bK n r x K).count k % 2=1:=mem_oddSrt.mp hk;have h2:0<(bK n r x K).count k:=by omega
 exact xw h k (PV.mp h2)
theorem oA(f:List Int->List Int)(y:List Int): ∀M:List (List Int),(∀a∈M,f a=f y->a=y)->(M.map f).count (f y)=M.count y
 | [],_=>rfl
 |a::M,h=>by
  rw[NS,SZ,SZ,oA f y M λb hb=>h b (N3 _ hb)]
  by_cases e:a=y
  ·rw[e];simp
  ·have: ¬f a=f y:=λw=>e (h a Oe w)
   simp[e,this]
theorem GD {n:Nat}{r x:List Nat}{K L:List (List Int)}(p:K.Perm L):(bK n r x K).Perm (bK n r x L):=p.flatMap_right _
def s2(n:Nat)(f:Nat->Nat->Nat):Nat:=((ND n).map λa=>((ND n).map λb=>f a b).sum).sum
theorem Ap {n:Nat}{f g:Nat->Nat->Nat}(h: ∀a b,a<n->b<n->f a b=g a b):s2 n f=s2 n g:=by
 unfold s2;congr 1;refine Oq λa ha=>?_
 congr 1;exact Oq λb hb=>h a b (NF.mp ha) (NF.mp hb)
theorem Mv.perm {n:Nat}{t:Nat->Nat}(T:Mv n t):((ND n).map t).Perm (ND n):=by
 refine(Ou ?_ Oh).mpr λv=>?_
 ·rw[QI,OY];exact O4 (λ{a b} ha hb (ne:a≠b) e=>ne (T.inj a b (NF.mp ha) (NF.mp hb) e)) Oh
 ·rw[N5,NF];constructor
  ·rintro⟨a,ha,rfl⟩;exact T.lt a (NF.mp ha)
  ·intro h;obtain⟨d,hd,e⟩:=T.sur v h;exact⟨d,NF.mpr hd,e⟩
theorem Hw {n:Nat}{t:Nat->Nat}(T:Mv n t)(f:Nat->Nat):((ND n).map λa=>f (t a)).sum=((ND n).map f).sum:=by
 have:=qm (T.perm.map f);rw[N6] at this;exact this
theorem zI {n:Nat}{t:Nat->Nat}(T:Mv n t)(f:Nat->Nat->Nat):s2 n (λa b=>f (t a) (t b))=s2 n f:=by
 unfold s2;rw[<-Hw T λa=>((ND n).map λb=>f a b).sum];congr 1;exact Oq λa _=>Hw T (f (t a))
theorem mF {α β:Type}(w:β->Nat)(g:α->List β): ∀l:List α,((l.flatMap g).map w).sum=(l.map λa=>((g a).map w).sum).sum
 | []=>rfl
 |a::l=>by rw[Oj,O3,UN,mF w g l,NS,OC]
theorem lG {α:Type}(p:α->Bool)(w:α->Nat): ∀l:List α,((l.filter p).map w).sum=(l.map λa=>if p a=true then w a else 0).sum
 | []=>rfl
 |a::l=>by
  rw[NS,OC,<-lG p w l,Sz];split
  ·rw[NS,OC]
  ·rw[Qt]
theorem qt {n:Nat}(P:Nat->Nat->Bool)(w:Nat×Nat->Nat):((sp n P).map w).sum=s2 n λa b=>if(decide (a≠b)&&P a b)=true then w (a,b) else 0:=by
 unfold sp s2;rw[mF];congr 1;refine Oq λa _=>?_
 rw[N6,lG];rfl
theorem zX {α:Type}(f:α->List Int)(z:List Int): ∀l:List α,(l.map f).count z=(l.map λa=>if f a=z then 1 else 0).sum
 | []=>rfl
 |a::l=>by
  rw[NS,SZ,zX f z l,NS,OC,Wi];congr 1
  by_cases e:f a=z
  ·rw[if_pos e,e];simp
  ·rw[if_neg e];simp[e]
theorem zK(w:Nat×Nat->Nat)(e:Nat×Nat): ∀(l l':List (Nat×Nat)),J3 e l=some l'->(l.map w).sum=w e+(l'.map w).sum
 | [],_,h=>by cases h
 |a::l,l',h=>by
  unfold J3 at h;cases q:Mp a e with
  |true=>
   rw[q] at h;cases h;unfold Mp at q;have q:(PU a.1 e.1&&PU a.2 e.2)=true:=q;rw[NQ] at q;have:a=e:=Xb (Rs q.1) (Rs q.2);rw[this,NS,OC]
  |false=>
   rw[q] at h;cases m:J3 e l with
   |none=>rw[m] at h;cases h
   |some u=>
    rw[m] at h;cases h;rw[NS,OC,NS,OC,zK w e l u m];omega
theorem Ge(w:Nat×Nat->Nat)(e:Nat×Nat)(l:List (Nat×Nat)):((LM e l).map w).sum % 2=(w e+(l.map w).sum) % 2:=by
 unfold LM;cases m:J3 e l with
 |none=>rw[NS,OC]
 |some u=>
  have:=zK w e l u m;show(u.map w).sum % 2=_;omega
theorem zt(w:Nat×Nat->Nat): ∀l acc:List (Nat×Nat),((Fk l acc).map w).sum % 2=((l.map w).sum+(acc.map w).sum) % 2
 | [],acc=>by simp[Fk]
 |e::l,acc=>by
  unfold Fk;rw[ly,ly,zt w l,NS,OC];have:=Ge w (e.1,e.2) acc;have e2:(e.1,e.2)=e:=rfl;rw[e2] at this⊢;omega
theorem xj(n:Nat): ∀(L acc:List (Nat×Nat)) (k:Nat),LP n L acc k=true->k+L.length<=63/\(Fk L acc).all (λe=>JZ n e.2)=true
 | [],acc,k,h=>by
   have h:(Zp k 63&&acc.all λe=>JZ n e.2)=true:=h;rw[NQ] at h;exact⟨NP h.1,h.2⟩
 |e::l,acc,k,h=>by
  unfold LP at h;rw[ly,ly] at h;have:=xj n l _ _ h;unfold Fk;rw[ly,ly,On];exact⟨by have:=this.1;omega,this.2⟩
theorem Iq {n:Nat}{L:List (Nat×Nat)}(h:mM n L=true):L.length<=63:=by
 have:=(xj n L [] 0 h).1;omega
theorem Ga {n:Nat}{L:List (Nat×Nat)}(h:mM n L=true){w:Nat×Nat->Nat}(hw: ∀e,JZ n e.2=true->w e=0):(L.map w).sum % 2=0:=by
 have a:=zt w L [];have h:=(xj n L [] 0 h).2;have b:((Fk L []).map w).sum=0:=by
  have:(Fk L []).map w=(Fk L []).map λ_=>0:=Oq λe he=>hw e (NW.mp h e he)
  rw[this];generalize Fk L []=M
  induction M with
  |nil=>rfl
  |cons x M ih=>rw[NS,OC,ih]
 rw[b] at a;simpa using a.symm
theorem uv: ∀l,0<tF l
 | []=>Nat.one_pos
 |a::l=>by
  have:=uv l;show 0<8*tF l+a;omega
theorem AJ: ∀ {l m:List Nat},(∀v∈l,v<8)->(∀v∈m,v<8)->tF l=tF m->l=m
 | [],[],_,_,_=>rfl
 | [],b::m,_,_,e=>by
   have:=uv m;have e:1=8*tF m+b:=e;omega
 |a::l,[],_,_,e=>by
  have:=uv l;have e:8*tF l+a=1:=e;omega
 |a::l,b::m,h1,h2,e=>by
  have e:8*tF l+a=8*tF m+b:=e;have ha:=h1 a Oe;have hb:=h2 b Oe;have e1:a=b:=by omega
  have e2:tF l=tF m:=by omega
  rw[e1,AJ (λv hv=>h1 v (N3 _ hv)) (λv hv=>h2 v (N3 _ hv)) e2]
theorem Am {n:Nat}(h3:3<=n)(h6:n<=6){s:List Nat}(O:Ord n s)(F G:TK)(w:Nat×Nat->Nat):((IM n s F G).map w).sum=s2 n λa b=>if(decide (a≠b)&&(bJ s a b&&F s a b (jR n s a b)))=true then
 (s2 n λc d=>if(decide (c≠d)&&(bJ (br s a b) c d&&G (br s a b) c d (jR n (br s a b) c d)))=true then w (tF (br (br s a b) c d),(jR n s a b|||jR n (br s a b) c d)&&& Bz n) else 0) else 0:=by
 have one: ∀ {s:List Nat},Ord n s-> ∀(F:TK) (g:(Nat×Nat)×Nat->Nat),(((EI n s).filter λe=>F s e.1.1 e.1.2 e.2).map g).sum=s2 n λa b=>if(decide (a≠b)&&(bJ s a b&&F s a b (jR n s a b)))=true then g ((a,b),jR n s a b) else 0:=λ{s} O F g=>by
  rw[FQ h3 h6 O,lG,N6,qt];refine Ap λa b _ _=>?_
  show(if(decide (a≠b)&&bJ s a b)=true then(if F s a b (jR n s a b)=true then g ((a,b),jR n s a b) else 0) else 0)=_;cases decide (a≠b)<;>cases bJ s a b<;>cases F s a b (jR n s a b)<;>rfl
 unfold IM;rw[mF,one O F];refine Ap λa b ha hb=>?_
 congr 1;rw[tw,N6];exact one (O.exx ha hb) G _
def aL(n c:Nat):Nat->Nat:=Fm n (-((c:Int)+1))
def rl(c p:Nat)(o:List Nat):List Nat:=xO (yT o (-((c:Int)+1))) (-((p:Int)+1))
theorem z9 {n k:Nat}(h:0<n):aL n k (jO n k)=0:=by
 show(((((QE k) % n:Nat):Int)+ -((k:Int)+1)) % n).toNat=0;rw[Qe,Sn,show((QE k:Nat):Int)+ -((k:Int)+1)=0 by omega];rfl
theorem Lx {n k v:Nat}(h:0<n):aL n k (jO n v)=jO n (aL n k v):=by
 have c1:((aL n k v:Nat):Int)=((v:Int)+ -((k:Int)+1)) % n:=(pE _ h).2;have e:((aL n k (jO n v):Nat):Int)=((jO n (aL n k v):Nat):Int):=by
  rw[show((aL n k (jO n v):Nat):Int)=(((jO n v:Nat):Int)+ -((k:Int)+1)) % n from(pE _ h).2];show((((QE v) % n:Nat):Int)+ -((k:Int)+1)) % n=(((QE (aL n k v)) % n:Nat):Int);rw[Qe,Sn,Qe,show((QE (aL n k v):Nat):Int)=((aL n k v:Nat):Int)+1 by omega,c1,Sn];congr 1;omega
 omega
theorem mS {n k:Nat}(h:k<n):aL n k k=n-1:=by
 have e:((k:Int)+ -((k:Int)+1)) % n=(n:Int) -1:=by
  rw[show(k:Int)+ -((k:Int)+1)= -1 by omega,<-RV];exact O1 (by omega) (by omega)
 show(((k:Int)+ -((k:Int)+1)) % n).toNat=_;rw[e];omega
theorem jI {n:Nat}(h:0<n)(k:Nat):Mv n (aL n k):=qp h _
section
variable {n c p:Nat}{r x o:List Nat}
theorem lc(h:0<n)(hl:o.length=n){k:Nat}(hk:k<n):(rl c p o).getD (aL n c k) 0=aL n p (o.getD k 0):=by
 have T:=qp h (-((c:Int)+1));show(xO (yT o _) _).getD (Fm n _ k) 0=_;rw[Jd (n:=n) (by rw[vG,hl]) _ (T.lt k hk),IW hl h _ hk];rfl
theorem xH(hl:o.length=n):(rl c p o).length=n:=by unfold rl;rw[Ed,vG,hl]
theorem jw(h:0<n)(O:Ord n o):Ord n (rl c p o):=O.mv (qp h _) (qp h _) (xH O.len) λk hk=>lc h O.len hk
theorem EG(h:0<n)(O:Ord n o){a b:Nat}(ha:a<n)(hb:b<n):rl c p (br o a b)=br (rl c p o) (aL n c a) (aL n c b):=by
 have E:=O.exx ha hb;exact Kk (u:=aL n p) O.len (qp h _) (xH O.len) (xH E.len) ha hb (λk hk=>lc h O.len hk) λk hk=>lc h E.len hk
theorem JJ(h:0<n){o':List Nat}(O:Ord n o)(O':Ord n o')(e:rl c p o=rl c p o'):o=o':=by
 refine mO (by rw[O.len,O'.len]) λk hk=>?_
 rw[O.len] at hk;have a:=lc (c:=c) (p:=p) h O.len hk;rw[e,lc h O'.len hk] at a;exact((qp h _).inj _ _ (O'.get hk) (O.get hk) a).symm
def xi(n c p:Nat)(r x:List Nat)(m:Nat):Bool:=(ND n).all λk=>(decide (k=c)||decide (k=c+1))||(!m.testBit (n*aL n c k+aL n p (r.getD k 0))&& !m.testBit (n*aL n c k+aL n p (x.getD k 0)))
theorem kL {m:Nat}:xi n c p r x m=true↔ ∀k,k<n->k≠c->k≠c+1->m.testBit (n*aL n c k+aL n p (r.getD k 0))=false/\m.testBit (n*aL n c k+aL n p (x.getD k 0))=false:=by
 unfold xi;rw[NW];constructor
 ·intro h k hk h1 h2;have:=h k (NF.mpr hk);rw[decide_eq_false h1,decide_eq_false h2] at this;simpa using this
 ·intro h k hk
  by_cases h1:k=c
  ·simp[h1]
  ·by_cases h2:k=c+1
   ·simp[h2]
   ·have:=h k (NF.mp hk) h1 h2;rw[this.1,this.2];simp
theorem FW: ∀n,n<=5->4<=n-> ∀a,a<n-> ∀y,y<n->(Bz n).testBit (n*a+y)=(decide (a≠0)&&decide (a+1≠n)):=by decide+kernel
theorem AO(hc:c+1<n){k:Nat}(hk:k<n)(h1:k≠c)(h2:k≠c+1):aL n c k<n/\aL n c k≠0/\aL n c k+1≠n:=by
 have h:0<n:=by omega
 have T:=qp h (-((c:Int)+1));have e0:aL n c (c+1)=0:=by
  have:=z9 (k:=c) h;rwa [show jO n c=c+1 from Qg hc] at this
 have e1:=mS (n:=n) (k:=c) (by omega);have lt:=T.lt k hk;refine⟨lt,λe=>h2 (T.inj _ _ hk hc (e.trans e0.symm)),λe=>h1 (T.inj _ _ hk (by omega) ?_)⟩;show aL n c k=aL n c c;rw[e1];omega
theorem CV(h4:4<=n)(h5:n<=5)(hc:c+1<n)(R:Ord n r)(X:Ord n x)(m m':Nat):xi n c p r x ((m|||m')&&& Bz n)=(xi n c p r x m&&xi n c p r x m'):=by
 have h:0<n:=by omega
 have U:=jI h p;rw[Ov,NQ,kL,kL,kL];have bit: ∀k y,k<n->k≠c->k≠c+1->y<n->(((m|||m')&&& Bz n).testBit (n*aL n c k+aL n p y)=false↔m.testBit (n*aL n c k+aL n p y)=false/\m'.testBit (n*aL n c k+aL n p y)=false):=λk y hk h1 h2 hy=>by
  obtain⟨t1,t2,t3⟩:=AO hc hk h1 h2;rw[Nat.testBit_and,Nat.testBit_or,FW n h5 h4 _ t1 _ (U.lt y hy),decide_eq_true t2,decide_eq_true t3];simp
 constructor
 ·intro q;refine⟨λk hk h1 h2=>?_,λk hk h1 h2=>?_⟩
  ·have:=q k hk h1 h2;rw[bit k _ hk h1 h2 (R.get hk),bit k _ hk h1 h2 (X.get hk)] at this;exact⟨this.1.1,this.2.1⟩
  ·have:=q k hk h1 h2;rw[bit k _ hk h1 h2 (R.get hk),bit k _ hk h1 h2 (X.get hk)] at this;exact⟨this.1.2,this.2.2⟩
 ·rintro⟨q1,q2⟩ k hk h1 h2;rw[bit k _ hk h1 h2 (R.get hk),bit k _ hk h1 h2 (X.get hk)];exact⟨⟨(q1 k hk h1 h2).1,(q2 k hk h1 h2).1⟩,(q1 k hk h1 h2).2,(q2 k hk h1 h2).2⟩
def HF(n c p:Nat)(r x:List Nat)(F:List Nat->Nat->Nat->Bool)(F':TK):Prop:= ∀o,Ord n o-> ∀a b,a<n->b<n->a≠b->
 F o a b=(bJ o a b&&(F' (rl c p o) (aL n c a) (aL n c b) (jR n (rl c p o) (aL n c a) (aL n c b))&&xi n c p r x (jR n (rl c p o) (aL n c a) (aL n c b))))
def two(n:Nat)(F G:List Nat->Nat->Nat->Bool)(o:List Nat):List (List Int):=(sp n (F o)).flatMap λp=>(sp n (G (br o p.1 p.2))).map λq=>zs (br (br o p.1 p.2) q.1 q.2)
def wz(n c p:Nat)(r x z:List Nat)(e:Nat×Nat):Nat:=if e.1=tF (rl c p z)/\xi n c p r x e.2=true then 1 else 0
theorem K3 {n:Nat}{o:List Nat}(O:Ord n o)(hn:n<=8): ∀v∈o,v<8:=λv hv=>NV (O.lt hv) hn
theorem Ag {F G:List Nat->Nat->Nat->Bool}{F' G':TK}(h4:4<=n)(h5:n<=5)(hc:c+1<n)(R:Ord n r)(X:Ord n x)(hF:HF n c p r x F F')(hG:HF n c p r x G G')(O:Ord n o){z:List Nat}(Z:Ord n z):
 (two n F G o).count (zs z)=((IM n (rl c p o) F' G').map (wz n c p r x z)).sum:=by
 have h:0<n:=by omega
 have T:=jI h c;have Or:=jw (c:=c) (p:=p) h O;unfold two;rw[dW,qt,Am (by omega) (by omega) Or];refine Eq.trans ?_ (zI T _)
 refine Ap λa b ha hb=>?_
 by_cases ne:a=b
 ·rw[decide_eq_false (show¬a≠b from λw=>w ne),decide_eq_false (show¬aL n c a≠aL n c b from λw=>w (by rw[ne])),PP,PP];rfl
 have ne':aL n c a≠aL n c b:=λe=>ne (T.inj a b ha hb e)
 have bm: ∀ {o:List Nat},Ord n o-> ∀a b,a<n->b<n->a≠b->bJ (rl c p o) (aL n c a) (aL n c b)=bJ o a b:=λO a b ha hb ne=>Ao (u:=aL n p) T (jI h p) O (jw h O) (λk hk=>lc h O.len hk) ha hb ne
 rw[decide_eq_true ne,decide_eq_true ne',OB,OB,hF o O a b ha hb ne];show _=if(bJ (rl c p o) (aL n c a) (aL n c b)&&F' (rl c p o) (aL n c a) (aL n c b) (jR n (rl c p o) (aL n c a) (aL n c b)))=true then _ else 0
 rw[bm O a b ha hb ne];have E:=O.exx ha hb;have re:br (rl c p o) (aL n c a) (aL n c b)=rl c p (br o a b):=(EG h O ha hb).symm;rw[re];cases bJ o a b with
 |false=>rfl
 |true=>
  rw[OB,OB];cases F' (rl c p o) (aL n c a) (aL n c b) (jR n (rl c p o) (aL n c a) (aL n c b)) with
  |false=>rfl
  |true=>
   rw[OB,if_pos (rfl:true=true),zX,qt]
   by_cases f1:xi n c p r x (jR n (rl c p o) (aL n c a) (aL n c b))=true
   ·rw[if_pos f1];refine Eq.trans ?_ (zI T _)
    refine Ap λd e hd he=>?_
    by_cases nd:d=e
    ·rw[decide_eq_false (show¬d≠e from λw=>w nd),decide_eq_false (show¬aL n c d≠aL n c e from λw=>w (by rw[nd])),PP,PP];rfl
    have nd':aL n c d≠aL n c e:=λw=>nd (T.inj d e hd he w)
    rw[decide_eq_true nd,decide_eq_true nd',OB,OB,hG _ E d e hd he nd];show _=if(bJ (rl c p (br o a b)) (aL n c d) (aL n c e)&&G' (rl c p (br o a b)) (aL n c d) (aL n c e) (jR n (rl c p (br o a b)) (aL n c d) (aL n c e)))=true then wz n c p r x z (tF (br (rl c p (br o a b)) (aL n c d) (aL n c e)),(jR n (rl c p o) (aL n c a) (aL n c b)|||jR n (rl c p (br o a b)) (aL n c d) (aL n c e))&&& Bz n) else 0
    rw[bm E d e hd he nd,<-EG h E hd he];unfold wz;rw[CV h4 h5 hc R X,f1,OB];have E2:=E.exx hd he;have ce:tF (rl c p (br (br o a b) d e))=tF (rl c p z)↔zs (br (br o a b) d e)=zs z:=
     ⟨λw=>by rw[JJ h E2 Z (AJ (K3 (jw h E2) (by omega)) (K3 (jw h Z) (by omega)) w)],λw=>by rw[Jq w]⟩
    show(if _ then(if zs (br (br o a b) d e)=zs z then 1 else 0) else 0)=_
    by_cases q:zs (br (br o a b) d e)=zs z
    ·have q':=ce.mpr q;cases bJ (br o a b) d e<;>cases G' (rl c p (br o a b)) (aL n c d) (aL n c e) (jR n (rl c p (br o a b)) (aL n c d) (aL n c e))<;>cases xi n c p r x (jR n (rl c p (br o a b)) (aL n c d) (aL n c e))<;>simp[q,q']
    ·have q': ¬tF (rl c p (br (br o a b) d e))=tF (rl c p z):=λw=>q (ce.mp w)
     cases bJ (br o a b) d e<;>cases G' (rl c p (br o a b)) (aL n c d) (aL n c e) (jR n (rl c p (br o a b)) (aL n c d) (aL n c e))<;>cases xi n c p r x (jR n (rl c p (br o a b)) (aL n c d) (aL n c e))<;>simp[q,q']
   ·have f0:xi n c p r x (jR n (rl c p o) (aL n c a) (aL n c b))=false:=by simpa using f1
    rw[if_neg f1];symm;have zl: ∀l:List Nat,∀g:Nat->Nat,(∀a,g a=0)->(l.map g).sum=0:=λl g hg=>by
     induction l with
     |nil=>rfl
     |cons a l ih=>rw[NS,OC,hg,ih]
    have zero: ∀f:Nat->Nat->Nat,(∀a b,f a b=0)->s2 n f=0:=λf hf=>zl _ _ λa=>zl _ _ (hf a)
    refine zero _ λd e=>?_
    split
    ·unfold wz;rw[CV h4 h5 hc R X,show xi n c p r x (jR n (rl c p o) (aL n c a) (aL n c b))=false from f0];simp
    ·rfl
end
def Pr(a b y z:Nat):Prop:=(a=y/\b=z)\/(a=z/\b=y)
theorem Pr.all {a b y z:Nat}(h:Pr a b y z){P:Nat->Prop}:(P a/\P b)↔(P y/\P z):=by
 rcases h with⟨rfl,rfl⟩|⟨rfl,rfl⟩
 ·exact Wo
 ·exact and_comm
theorem Pr.sw {a b y z:Nat}(h:Pr a b y z):Pr b a y z:=h.elim (λ⟨p,q⟩=>.inr ⟨q,p⟩) λ⟨p,q⟩=>.inl ⟨q,p⟩
section
variable {n c p:Nat}{r x o:List Nat}
theorem Ik(hc:c+1<n):aL n c (c+1)=0:=by
 have:=z9 (k:=c) (n:=n) (by omega);rwa [show jO n c=c+1 from Qg hc] at this
theorem xL(h4:4<=n)(h5:n<=5)(O:Ord n o){a b k y:Nat}(ha:a<n)(hb:b<n)(hk:k<n)(hy:y<n):(jR n (rl c p o) (aL n c a) (aL n c b)).testBit (n*aL n c k+aL n p y)=rh n o (a,b) k y:=by
 have h:0<n:=by omega
 have T:=jI h c;have U:=jI h p;have Or:=jw (c:=c) (p:=p) h O;rw[(Hx (by omega) (by omega) Or (T.lt a ha) (T.lt b hb)).2 _ _ (T.lt k hk) (U.lt y hy)];exact LC (u:=aL n p) T U O (λk hk=>lc h O.len hk) ha hb hk hy
theorem Lp(h4:4<=n)(h5:n<=5)(hc:c+1<n)(R:Ord n r)(X:Ord n x)(h1:r.getD c 0≠x.getD c 0)(h2:r.getD c 0≠x.getD (c+1) 0)(h3:r.getD (c+1) 0≠x.getD c 0)(h6:r.getD (c+1) 0≠x.getD (c+1) 0){m:Nat}(h:JZ n m=true):xi n c p r x m=false:=by
 have h0:0<n:=by omega
 have T:=jI h0 c;have U:=jI h0 p;cases f:xi n c p r x m with
 |false=>rfl
 |true=>
  exfalso;rw[kL] at f;have nI0:=Ik hc;have nC:=mS (n:=n) (k:=c) (by omega);unfold JZ at h;have h:(((ND n).any λx=> !(PU x 0||PU (QE x) n)&&Nj n x m)||((ND n).any λy=>Nl n y m))=true:=h;rw[PD,Ul,Ul] at h;rcases h with⟨z,hz,q⟩|⟨y,hy,q⟩
  ·rw[NQ,O0,Vh,Cd,Cd,decide_eq_false_iff_not,decide_eq_false_iff_not] at q;obtain⟨k,hk,ek⟩:=T.sur z (NF.mp hz);have k1:k≠c:=λe=>q.1.2 (by rw[<-ek,e,nC];omega)
   have k2:k≠c+1:=λe=>q.1.1 (by rw[<-ek,e,nI0])
   have:=NW.mp q.2 (aL n p (r.getD k 0)) (NF.mpr (U.lt _ (R.get hk)));have this:kU m (n*z+aL n p (r.getD k 0))=true:=this;rw[gZ,<-ek,(f k hk k1 k2).1] at this;cases this
  ·obtain⟨v,hv,ev⟩:=U.sur y (NF.mp hy);have key: ∀k,k<n->k≠c->k≠c+1->m.testBit (n*aL n c k+y)=true:=λk hk k1 k2=>by
    have:=NW.mp q (aL n c k) (NF.mpr (T.lt k hk));have this:(PU (aL n c k) 0||(PU (QE (aL n c k)) n||kU m (n*aL n c k+y)))=true:=this;obtain⟨t1,t2,t3⟩:=AO hc hk k1 k2;rw[Cd,Cd,decide_eq_false t2,decide_eq_false t3,RL,RL,gZ] at this;exact this
   have a1:=cv R hv;have a2:=cv X hv;have fin: ∀k,k<n->k≠c->k≠c+1->(r.getD k 0=v\/x.getD k 0=v)->False:=λk hk k1 k2 e=>by
    have b:=key k hk k1 k2;have g:=f k hk k1 k2;rw[<-ev] at b;rcases e with e|e
    ·rw[e,b] at g;cases g.1
    ·rw[e,b] at g;cases g.2
   by_cases e1:r.idxOf v=c
   ·refine fin _ a2.1 (λe=>?_) (λe=>?_) (.inr a2.2)
    ·rw[e1] at a1;rw[e] at a2;exact h1 (a1.2.trans a2.2.symm)
    ·rw[e1] at a1;rw[e] at a2;exact h2 (a1.2.trans a2.2.symm)
   ·by_cases e2:r.idxOf v=c+1
    ·refine fin _ a2.1 (λe=>?_) (λe=>?_) (.inr a2.2)
     ·rw[e2] at a1;rw[e] at a2;exact h3 (a1.2.trans a2.2.symm)
     ·rw[e2] at a1;rw[e] at a2;exact h6 (a1.2.trans a2.2.symm)
    ·exact fin _ a1.1 e1 e2 (.inl a1.2)
theorem pH {r' x':List Nat}{A1 A2 B1 B2:Nat}(h4:4<=n)(h5:n<=5)(hc:c+1<n)(R':Ord n r')(X':Ord n x')(ag: ∀k,k<n->k≠c->k≠c+1->r'.getD k 0=r.getD k 0/\x'.getD k 0=x.getD k 0)
 (hA:Pr A1 A2 (aL n p (r'.getD (c+1) 0)) (aL n p (x'.getD (c+1) 0))) (hB:Pr B1 B2 (aL n p (r'.getD c 0)) (aL n p (x'.getD c 0))):HF n c p r x (cg r' x') (HL n A1 A2 B1 B2):=λo O a b ha hb ne=>by
 have bt:=λk y (hk:k<n) (hy:y<n)=>xL (c:=c) (p:=p) h4 h5 O (a:=a) (b:=b) (k:=k) (y:=y) ha hb hk hy
 generalize jR n (rl c p o) (aL n c a) (aL n c b)=M at bt⊢;unfold cg;congr 1;rw[Ov,BD O R' X',NQ,kL];have nI0:=Ik hc;have nC:=mS (n:=n) (k:=c) (by omega);have e:HL n A1 A2 B1 B2 (rl c p o) (aL n c a) (aL n c b) M=true↔(M.testBit A1=false/\M.testBit A2=false)/\(M.testBit (n*(n-1)+B1)=false/\M.testBit (n*(n-1)+B2)=false):=by
  show(!kU M A1&&(!kU M A2&&(!kU M (n*(n-1)+B1)&& !kU M (n*(n-1)+B2))))=true↔_;rw[gZ,gZ,gZ,gZ];simp only[NQ,O0,and_assoc]
 rw[e,hA.all (P:=λy=>M.testBit y=false),hB.all (P:=λy=>M.testBit (n*(n-1)+y)=false)];have b0: ∀y,y<n->M.testBit (aL n p y)=rh n o (a,b) (c+1) y:=λy hy=>by
  have:=bt (c+1) y hc hy;rwa [nI0,Nat.mul_zero,Qt] at this
 have b1: ∀y,y<n->M.testBit (n*(n-1)+aL n p y)=rh n o (a,b) c y:=λy hy=>by
  have:=bt c y (by omega) hy;rwa [nC] at this
 rw[b0 _ (R'.get hc),b0 _ (X'.get hc),b1 _ (R'.get (by omega)),b1 _ (X'.get (by omega))];constructor
 ·intro q
  exact⟨⟨q _ hc,q c (by omega)⟩,λk hk k1 k2=>by
   have:=q k hk
   rw[<-(ag k hk k1 k2).1,<-(ag k hk k1 k2).2,bt k _ hk (R'.get hk),bt k _ hk (X'.get hk)];exact this⟩
 ·rintro⟨⟨q1,q2⟩,q3⟩ k hk
  by_cases k1:k=c
  ·rw[k1];exact q2
  ·by_cases k2:k=c+1
   ·rw[k2];exact q1
   ·have:=q3 k hk k1 k2;rw[<-(ag k hk k1 k2).1,<-(ag k hk k1 k2).2,bt k _ hk (R'.get hk),bt k _ hk (X'.get hk)] at this;exact this
def MP(n c:Nat)(r x o:List Nat)(a b:Nat):Prop:= ∀k,k<n->k≠c->k≠c+1->rh n o (a,b) k (r.getD k 0)=false/\rh n o (a,b) k (x.getD k 0)=false
def Hu(n s e A1 A2:Nat):Prop:=bC n s e A1=false/\bC n s e A2=false
def G3(n c:Nat)(r x:List Nat)(T A1 A2 B1 B2:Nat)(o:List Nat)(a b:Nat):Prop:=bJ o a b=true/\((a=c+1\/b=c+1)/\(bC n (o.getD a 0) (o.getD b 0) T=true/\(Hu n (o.getD a 0) (jO n T) A1 A2/\Hu n (jO n T) (o.getD b 0) B1 B2)))/\MP n c r x o a b
theorem GL(h4:4<=n)(h5:n<=5)(R:Ord n r)(X:Ord n x)(O:Ord n o){a b:Nat}(ha:a<n)(hb:b<n):xi n c p r x (jR n (rl c p o) (aL n c a) (aL n c b))=true↔MP n c r x o a b:=by
 rw[kL];refine forall_congr' λk=>forall_congr' λhk=>forall_congr' λ_=>forall_congr' λ_=>?_
 rw[xL h4 h5 O ha hb hk (R.get hk),xL h4 h5 O ha hb hk (X.get hk)]
theorem zb(h0:0<n){s e A1 A2 A1' A2':Nat}(hs:s<n)(he:e<n)(h1:A1<n)(h2:A2<n)(h:Pr A1' A2' (aL n p A1) (aL n p A2)):KT n (aL n p s) (aL n p e) A1' A2'=true↔Hu n s e A1 A2:=by
 have U:=jI h0 p;show(!Fh n _ _ _&& !Fh n _ _ _)=true↔_;rw[qz h0 (U.lt s hs),qz h0 (U.lt s hs),NQ,O0,O0,h.all (P:=λy=>bC n (aL n p s) (aL n p e) y=false),U.inb _ _ _ hs he h1,U.inb _ _ _ hs he h2];rfl
theorem EX(h:0<n)(T:Nat):jO n T<n:=P4 _ h
theorem zi(hc:c+1<n){a:Nat}(ha:a<n):PU (aL n c a) 0=true↔a=c+1:=by
 rw[Cd,decide_eq_true_eq];have T:=jI (show 0<n by omega) c;have nI0:=Ik hc;exact⟨λe=>T.inj _ _ ha hc (e.trans nI0.symm),λe=>by rw[e,nI0]⟩
theorem Ad {F:List Nat->Nat->Nat->Bool}{T A1 A2 B1 B2 A1' A2' B1' B2':Nat}(h4:4<=n)(h5:n<=5)(hc:c+1<n)(R:Ord n r)(X:Ord n x)(hT:T<n)(a1:A1<n)(a2:A2<n)(b1:B1<n)(b2:B2<n)
 (hA:Pr A1' A2' (aL n p A1) (aL n p A2)) (hB:Pr B1' B2' (aL n p B1) (aL n p B2)) (hF: ∀o,Ord n o-> ∀a b,a<n->b<n->a≠b->(F o a b=true↔G3 n c r x T A1 A2 B1 B2 o a b)):HF n c p r x F (Lf n (aL n p T) A1' A2' B1' B2'):=λo O a b ha hb ne=>by
 have h0:0<n:=by omega
 have U:=jI h0 p;rw[Ov,hF o O a b ha hb ne,NQ,NQ,GL h4 h5 R X O ha hb];unfold G3;refine and_congr Wo (and_congr ?_ Wo);have la:=O.get ha;have lb:=O.get hb;show _↔(((PU (aL n c a) 0||PU (aL n c b) 0)&&(Fh n ((rl c p o).getD (aL n c a) 0) ((rl c p o).getD (aL n c b) 0) (aL n p T)&&(KT n ((rl c p o).getD (aL n c a) 0) (jO n (aL n p T)) A1' A2'&&KT n (jO n (aL n p T)) ((rl c p o).getD (aL n c b) 0) B1' B2')))=true);rw[lc h0 O.len ha,lc h0 O.len hb,<-Lx h0];simp only[NQ,PD];rw[zi hc ha,zi hc hb,qz h0 (U.lt _ la),U.inb _ _ _ la lb hT,zb h0 la (EX h0 T) a1 a2 hA,zb h0 (EX h0 T) lb b1 b2 hB]
end
def eR(n:Nat)(F:List Nat->Nat->Nat->Bool)(k:List Int):List (List Int):=(sp n (F (uz k))).map λp=>zs (br (uz k) p.1 p.2)
def wx(e:List Int->List (List Int))(K:List (List Int)):List (List Int):=cn (K.flatMap e)
theorem uw(n:Nat)(F G:List Nat->Nat->Nat->Bool)(o:List Nat):(eR n F (zs o)).flatMap (eR n G)=two n F G o:=by
 unfold eR two;rw[iG,List.flatMap_map];congr 1;funext p;rw[iG]
theorem xJ {n:Nat}{F:List Nat->Nat->Nat->Bool}{o:List Nat}(O:Ord n o):jK n (eR n F (zs o)):=λk hk=>by
 unfold eR at hk;rw[iG] at hk;obtain⟨p,hp,rfl⟩:=N5.mp hk;obtain⟨h1,h2,_⟩:=sp_mem.mp hp;exact⟨_,O.exx h1 h2,rfl⟩
theorem u8 {n:Nat}{F:List Nat->Nat->Nat->Bool}{K:List (List Int)}(h:jK n K):jK n (K.flatMap (eR n F)):=λk hk=>by
 obtain⟨y,hy,hk⟩:=Pv.mp hk;obtain⟨o,O,rfl⟩:=h y hy;exact xJ O k hk
theorem GQ {n:Nat}{K:List (List Int)}(h:jK n K):jK n (cn K):=λk hk=>by
 have h1:K.count k % 2=1:=mem_oddSrt.mp hk;exact h k (PV.mp (by omega))
theorem zD {n:Nat}{F:List Nat->Nat->Nat->Bool}{K:List (List Int)}(h:jK n K):jK n (wx (eR n F) K):=GQ (u8 h)
theorem Dr {A B:List (List Int)}(h: ∀z,A.count z % 2=B.count z % 2):cn A=cn B:=ss (xr A) λz=>by rw[pg,h z]
theorem zH(e1 e2:List Int->List (List Int))(K:List (List Int))(z:List Int):((wx e1 K).flatMap e2).count z % 2=((K.map λk=>((e1 k).flatMap e2).count z).sum) % 2:=by
 have a:=GM (λy=>(e2 y).count z) (K.flatMap e1);unfold wx;rw[dW,a,<-dW,List.flatMap_assoc,dW]
theorem AB {f g:List Int->Nat}: ∀K:List (List Int),(∀k∈K,f k % 2=g k % 2)->(K.map f).sum % 2=(K.map g).sum % 2
 | [],_=>rfl
 |k::K,h=>by
  rw[NS,OC,NS,OC];have:=AB K λy hy=>h y (N3 _ hy)
  have:=h k Oe;omega
theorem Gk {n:Nat}{F G:List Nat->Nat->Nat->Bool}{o:List Nat}(O:Ord n o):jK n (two n F G o):=by
 rw[<-uw];exact u8 (xJ O)
def nJ(p a b:Nat):Bool:=decide (min a b<p)&&decide (p<max a b)
structure NI(n a b p q:Nat):Prop where
 ha:a<n
 hb:b<n
 hp:p<n
 hq:q<n
 ab:a≠b
 ap:a≠p
 aq:a≠q
 bp:b≠p
 bq:b≠q
 pq:p≠q
 ni:nJ p a b=nJ q a b
theorem pZ(p a b:Nat):nJ p a b=nJ p b a:=by unfold nJ;rw[Nat.min_comm,Nat.max_comm]
theorem NI.revL {n a b p q:Nat}(h:NI n a b p q):NI n b a p q:=⟨h.hb,h.ha,h.hp,h.hq,h.ab.symm,h.bp,h.bq,h.ap,h.aq,h.pq,by rw[pZ p,pZ q];exact h.ni⟩
theorem NI.revR {n a b p q:Nat}(h:NI n a b p q):NI n a b q p:=⟨h.ha,h.hb,h.hq,h.hp,h.ab,h.aq,h.ap,h.bq,h.bp,h.pq.symm,h.ni.symm⟩
def Mw:Bool:=(ND 5).all λa=>(ND 5).all λb=>(ND 5).all λp=>(ND 5).all λq=> !(a !=b&&a !=p&&a !=q&&b !=p&&b !=q&&p !=q&&(nJ p a b==nJ q a b))||(nJ a p q==nJ b p q)
theorem Gg:Mw=true:=by decide+kernel
theorem NI.swap {n a b p q:Nat}(h:NI n a b p q)(hn:n<=5):NI n p q a b:=by
 refine⟨h.hp,h.hq,h.ha,h.hb,h.pq,h.ap.symm,h.bp.symm,h.aq.symm,h.bq.symm,h.ab,?_⟩;have k:=NW.mp Gg a (NF.mpr (NV h.ha hn));have k:=NW.mp k b (NF.mpr (NV h.hb hn));have k:=NW.mp k p (NF.mpr (NV h.hp hn));have k:=NW.mp k q (NF.mpr (NV h.hq hn));rw[bne_iff_ne.mpr h.ab,bne_iff_ne.mpr h.ap,bne_iff_ne.mpr h.aq,bne_iff_ne.mpr h.bp,bne_iff_ne.mpr h.bq,bne_iff_ne.mpr h.pq,h.ni,beq_self_eq_true] at k;exact eq_of_beq k
def bA(a b p:Nat):Nat:=if nJ p a b=true then min a b else max a b
def LG(n a b p q:Nat):Bool:=decide (min (aL n (bA a b p) p) (aL n (bA a b p) q)<aL n (bA a b p) (bA p q a))&&(decide (aL n (bA a b p) (bA p q a)<min (aL n (bA a b p) a) (aL n (bA a b p) b))&&(decide (min (aL n (bA a b p) a) (aL n (bA a b p) b)+1<n)&&(decide (max (aL n (bA a b p) p) (aL n (bA a b p) q)=aL n (bA a b p) (bA p q a))&&decide (max (aL n (bA a b p) a) (aL n (bA a b p) b)=n-1))))
theorem G9:((ND 6).all λn=>(ND n).all λa=>(ND n).all λb=>(ND n).all λp=>(ND n).all λq=> !(a !=b&&a !=p&&a !=q&&b !=p&&b !=q&&p !=q&&(nJ p a b==nJ q a b))||LG n a b p q)=true:=by decide+kernel
theorem D6(a b:Nat):Pr (min a b) (max a b) a b:=by
 unfold Pr;omega
theorem NI.cfg {n a b p q:Nat}(h:NI n a b p q)(h5:n<=5): ∃r1 l,r1<aL n (bA a b p) (bA p q a)/\aL n (bA a b p) (bA p q a)<l/\l+1<n/\Pr r1 (aL n (bA a b p) (bA p q a)) (aL n (bA a b p) p) (aL n (bA a b p) q)/\Pr (n-1) l (aL n (bA a b p) a) (aL n (bA a b p) b):=by
 have k:=G9;have k:=NW.mp k n (NF.mpr (by omega));have k:=NW.mp k a (NF.mpr h.ha);have k:=NW.mp k b (NF.mpr h.hb);have k:=NW.mp k p (NF.mpr h.hp);have k:=NW.mp k q (NF.mpr h.hq);have e:(a !=b&&a !=p&&a !=q&&b !=p&&b !=q&&p !=q&&(nJ p a b==nJ q a b))=true:=by
  have h1:=h.ab;have h2:=h.ap;have h3:=h.aq;have h4:=h.bp;have h5:=h.bq;have h6:=h.pq;have h7:=h.ni;simp[h1,h2,h3,h4,h5,h6,h7]
 rw[e,Qh,RL] at k;unfold LG at k;simp only[NQ,decide_eq_true_eq] at k;obtain⟨k1,k2,k3,k4,k5⟩:=k;refine⟨_,_,k1,k2,k3,?_,?_⟩
 ·have:=D6 (aL n (bA a b p) p) (aL n (bA a b p) q);rw[k4] at this;exact this
 ·have:=(D6 (aL n (bA a b p) a) (aL n (bA a b p) b)).sw;rw[k5] at this;exact this
theorem ur {n a b p q:Nat}(h:NI n a b p q):bA a b p<n/\bA p q a<n:=by
 have:=h.ha;have:=h.hb;have:=h.hp;have:=h.hq;unfold bA;constructor<;>split<;>omega
section
variable {n c:Nat}{r x r' x' o:List Nat}(h4:4<=n)(h5:n<=5)(hc:c+1<n)(R:Ord n r)(X:Ord n x)(R':Ord n r')(X':Ord n x')(N:NI n (r.getD c 0) (x.getD c 0) (r.getD (c+1) 0) (x.getD (c+1) 0))
 (ag: ∀k,k<n->k≠c->k≠c+1->r'.getD k 0=r.getD k 0/\x'.getD k 0=x.getD k 0) (s1:r'.getD c 0=r.getD (c+1) 0) (s2:r'.getD (c+1) 0=r.getD c 0) (s3:x'.getD c 0=x.getD (c+1) 0) (s4:x'.getD (c+1) 0=x.getD c 0)
include h4 h5 hc R X R' X' N ag s1 s2 s3 s4
theorem Mu {B:List Nat->Nat->Nat->Bool}(hB: ∀o,Ord n o-> ∀a b,a<n->b<n->a≠b->(B o a b=true↔G3 n c r x (bA (r.getD c 0) (x.getD c 0) (r.getD (c+1) 0)) (r.getD (c+1) 0) (x.getD (c+1) 0) (r.getD c 0) (x.getD c 0) o a b))(O:Ord n o)(z:List Int):
 ((two n (cg r x) B o).count z+(two n B (cg r' x') o).count z) % 2=0:=by
 by_cases hz: ∃zo,Ord n zo/\z=zs zo
 ·obtain⟨zo,Z,rfl⟩:=hz;obtain⟨r1,l,c1,c2,c3,c4,c5⟩:=N.cfg h5;obtain⟨tl,vl⟩:=ur N;generalize bA (r.getD (c+1) 0) (x.getD (c+1) 0) (r.getD c 0)=V at c1 c2 c4 vl;generalize bA (r.getD c 0) (x.getD c 0) (r.getD (c+1) 0)=T at hB tl c1 c2 c3 c4 c5;have h0:0<n:=by omega
  have k1:HF n c T r x (cg r x) (HL n r1 (aL n T V) (n-1) l):=pH h4 h5 hc R X (λ_ _ _ _=>⟨rfl,rfl⟩) c4 c5;have k2:HF n c T r x (cg r' x') (HL n (n-1) l r1 (aL n T V)):=pH h4 h5 hc R' X' ag (by rw[s2,s4];exact c5) (by rw[s1,s3];exact c4);have k3:HF n c T r x B (Lf n (n-1) r1 (aL n T V) (n-1) l):=by
   have:=Ad (p:=T) h4 h5 hc R X tl (R.get hc) (X.get hc) (R.get (by omega)) (X.get (by omega)) c4 c5 hB;rwa [mS tl] at this
  rw[Ag h4 h5 hc R X k1 k3 O Z,Ag h4 h5 hc R X k3 k2 O Z,<-UN,<-O3];refine Ga (Nh h4 h5 c1 c2 c3 (jw (c:=c) (p:=T) h0 O)) λe he=>?_
  unfold wz;rw[Lp h4 h5 hc R X N.ab N.aq N.bp.symm N.pq he];simp
 ·have zero: ∀ {F G:List Nat->Nat->Nat->Bool},(two n F G o).count z=0:=Tu.mpr λw=>hz (Gk O z w)
  rw[zero,zero]
theorem Fr {B:List Nat->Nat->Nat->Bool}(hB: ∀o,Ord n o-> ∀a b,a<n->b<n->a≠b->(B o a b=true↔G3 n c r x (bA (r.getD c 0) (x.getD c 0) (r.getD (c+1) 0)) (r.getD (c+1) 0) (x.getD (c+1) 0) (r.getD c 0) (x.getD c 0) o a b)){K:List (List Int)}(hK:jK n K):
 wx (eR n (cg r' x')) (wx (eR n B) K)=wx (eR n B) (wx (eR n (cg r x)) K):=by
 refine Dr λz=>?_
 rw[zH,zH];refine AB K λk hk=>?_
 obtain⟨o,O,rfl⟩:=hK k hk;rw[uw,uw];have:=Mu h4 h5 hc R X R' X' N ag s1 s2 s3 s4 hB O z;omega
end
set_option maxHeartbeats 4000000
theorem Fp(p q:Bool):bi (p&&q)=bi (q&&p):=by rw[Bool.and_comm]
def kW(n:Nat)(r o:List Nat):Int:=wR n o-Fl n r o-Ff n r o+wR n r+1
theorem Ea {n:Nat}{r o:List Nat}(O:Ord n o)(R:Ord n r):kW n (bv r) (bv o)=kW n r o:=by
 have re: ∀(q:Nat->Nat->Bool) (g:Nat->Nat->Bool) (p s:List Nat),Ord n p->Ord n s->(ls (ND n) λi=>ls (ND n) λj=>bi (q i j&&g ((bv p).getD i 0) ((bv s).getD j 0)))=ls (ND n) λi=>ls (ND n) λj=>bi (g i j&&q (p.getD i 0) (s.getD j 0)):=λq g p s Q S=>by
  rw[<-tQ Q];refine bh λi hi=>?_
  rw[<-tQ S];refine bh λj hj=>?_
  rw[fG Q (NF.mp hi),fG S (NF.mp hj),Fp]
 unfold kW wR Fl Ff;rw[re (λi j=>decide (i<j)) (λa b=>decide (a<b)) o o O O,re (λi j=>decide (i<=j)) (λa b=>decide (a<=b)) o r O R,re (λi j=>decide (i<j)) (λa b=>decide (a<b)) r o R O,re (λi j=>decide (i<j)) (λa b=>decide (a<b)) r r R R]
theorem Fx {l m:List Nat}(nl:l.Nodup)(nm:m.Nodup)(h: ∀z∈l,z∈m):l.length<=m.length:=by
 have p:l.Perm (m.filter λz=>decide (z∈l)):=(Ou nl (Pn _ nm)).mpr λz=>by
  rw[OU,decide_eq_true_eq];exact⟨λq=>⟨h z q,q⟩,λq=>q.2⟩
 rw[p.length_eq];exact Pf _ _
theorem Je {n:Nat}{r x:List Nat}{S:Nat->Nat}(H:Sg n r x S){y:Nat}(hy:y<n): ∃m,m<n/\led S m/\rg S y m:=by
 obtain⟨W,C⟩:=DZ H hy;have ex: ∀(l:List Nat),l≠[]-> ∃m∈l,∀z∈l,m<=z:=by
  intro l
  induction l with
  |nil=>intro h;exact absurd rfl h
  |cons a l ih=>
   intro _
   by_cases e:l=[]
   ·subst e;exact⟨a,by simp,λz hz=>by rw[Om] at hz;omega⟩
   ·obtain⟨m,hm,h⟩:=ih e
    by_cases am:a<=m
    ·exact⟨a,by simp,λz hz=>(Oc.mp hz).elim (λe=>by omega) λq=>by have:=h z q;omega⟩
    ·exact⟨m,by simp[hm],λz hz=>(Oc.mp hz).elim (λe=>by omega) λq=>h z q⟩
 obtain⟨m,hm,h⟩:=ex W (List.ne_nil_of_mem ((C.mem y).mpr (gy S y)));exact⟨m,C.lt m hm,λz hz=>h z ((C.mem z).mpr (kG ((C.mem m).mp hm) hz)),(C.mem m).mp hm⟩
theorem Em {n:Nat}{r x r' x':List Nat}{S S':Nat->Nat}(H:Sg n r x S)(H':Sg n r' x' S'){t:Nat->Nat}(lt: ∀c,c<n->t c<n)(hb: ∀a b,a<n->b<n->rg S' (t a) (t b)->rg S a b)(hs: ∀s m,s<n->m<n->True):((ND n).filter (iS S)).length<=((ND n).filter (iS S')).length:=by
 have ex: ∀s,∃m,s<n->m<n/\led S' m/\rg S' (t s) m:=λs=>by
  by_cases h:s<n
  ·obtain⟨m,h1⟩:=Je H' (lt s h);exact⟨m,λ_=>h1⟩
  ·exact⟨0,λq=>absurd q h⟩
 obtain⟨f,hf⟩:=SG.mp ex;rw[<-NK (f:=f)];refine Fx ?_ (Pn _ Oh) λz hz=>?_
 ·show T9 (·≠ ·) _;rw[OY];refine O4 (λ{a b} ha hb' ne e=>ne ?_) (show T9 (·≠ ·) _ from Pn _ Oh);rw[OU,NF,ledB_iff] at ha hb';obtain⟨a1,a2,a3⟩:=hf a ha.1;obtain⟨b1,b2,b3⟩:=hf b hb'.1;have r1:rg S' (t a) (t b):=kG a3 (e▸jV H' (lt b hb'.1) b3);have r2:=hb a b ha.1 hb'.1 r1;have l1:=ha.2 b r2;have l2:=hb'.2 a (jV H ha.1 r2);omega
 ·obtain⟨s,hs,rfl⟩:=N5.mp hz;rw[OU,NF] at hs;obtain⟨h1,h2,h3⟩:=hf s hs.1;rw[OU,NF,ledB_iff];exact⟨h1,h2⟩
theorem Cs {n:Nat}{r x r' x':List Nat}{S S':Nat->Nat}(H:Sg n r x S)(H':Sg n r' x' S'){t:Nat->Nat}(lt: ∀c,c<n->t c<n)(sur: ∀c,c<n-> ∃d,d<n/\t d=c)(hb: ∀a b,a<n->b<n->(rg S' (t a) (t b)↔rg S a b)):((ND n).filter (iS S')).length=((ND n).filter (iS S)).length:=by
 have ex: ∀c,∃d,c<n->d<n/\t d=c:=λc=>by
  by_cases h:c<n
  ·obtain⟨d,hd⟩:=sur c h;exact⟨d,λ_=>hd⟩
  ·exact⟨0,λq=>absurd q h⟩
 obtain⟨u,hu⟩:=SG.mp ex;refine Nat.le_antisymm (Em H' H (t:=u) (λc hc=>(hu c hc).1) (λa b ha hb' q=>?_) λ_ _ _ _=>trivial) (Em H H' lt (λa b ha hb'=>(hb a b ha hb').mp) λ_ _ _ _=>trivial);have:=(hb _ _ (hu a ha).1 (hu b hb').1).mpr q;rwa [(hu a ha).2,(hu b hb').2] at this
set_option maxHeartbeats 1000000
section
variable {n a b:Nat}{r o:List Nat}(O:Ord n o)(R:Ord n r)(ha:a<n)(hb:b<n)(ne:a≠b)
include O R ha hb ne
theorem CG:kW n r o-kW n r (br o a b)=1-2*mG n r o a b+2*vq n o a b:=by
 have h1:=El O ha hb ne;have h2:=Jo O R ha hb ne;have h3:=Jm O R ha hb ne;unfold kW;omega
end
theorem Ha: ∀n,n<=6-> ∀c,c<n->c+1<n-> ∀k,k<n->bC n c (c+1) k=decide (k=c):=by decide+kernel
theorem FJ: ∀n,n<=6-> ∀c,c<n->c+1<n-> ∀b,b<n->(decide (b=c+1)||(!bC n (c+1) b c&&(bC n b (c+1) c&&(!bC n b (c+1) (c+1)&&bC n (c+1) b (c+1)))))=true:=by decide+kernel
theorem pj(n:Nat)(hn:n<=6)(c:Nat)(h:c<n)(hc:c+1<n)(b:Nat)(hb:b<n)(ne:b≠c+1):bC n (c+1) b c=false/\bC n b (c+1) c=true/\bC n b (c+1) (c+1)=false/\bC n (c+1) b (c+1)=true:=by
 have k:=FJ n hn c h hc b hb;rw[decide_eq_false ne] at k;simpa using k
section
variable {n c:Nat}{r o:List Nat}(O:Ord n o)(R:Ord n r)(hn:n<=6)(hc:c+1<n)
include O R hn hc
theorem AC:kW n (br r c (c+1)) o-kW n r o=2*bi (decide (r.getD c 0<o.getD (c+1) 0)) -2*bi (decide (r.getD (c+1) 0<o.getD (c+1) 0)) -1+2*bi (decide (r.getD (c+1) 0<r.getD c 0)):=by
 have hc':c<n:=by omega
 have ne:c≠c+1:=by omega
 have e1:Fl n r o-Fl n (br r c (c+1)) o=bi (decide (o.getD (c+1) 0<=r.getD (c+1) 0)) -bi (decide (o.getD (c+1) 0<=r.getD c 0)):=by
  unfold Fl;rw[<-eA,<-ke Oh (l:=ND n) (bi (decide (o.getD (c+1) 0<=r.getD (c+1) 0)) -bi (decide (o.getD (c+1) 0<=r.getD c 0))) (NF.mpr hc)];refine bh λi _=>?_
  rw[oJ R.len hc' hc ne (λk u=>bi (decide (i<=k)&&decide (o.getD i 0<=u)))];simp only[iW]
  by_cases e:i=c+1
  ·subst e;rw[if_pos rfl,decide_eq_true (NT (c+1)),decide_eq_false (show¬c+1<=c by omega)];simp[bi]
  ·rw[if_neg e]
   by_cases l:i<=c
   ·rw[decide_eq_true l,decide_eq_true (show i<=c+1 by omega)];simp[bi]
   ·rw[decide_eq_false l,decide_eq_false (show¬i<=c+1 by omega)];simp[bi]
 have e2:Ff n r o-Ff n (br r c (c+1)) o=bi (decide (r.getD c 0<o.getD (c+1) 0)) -bi (decide (r.getD (c+1) 0<o.getD (c+1) 0)):=by
  unfold Ff;rw[oJ R.len hc' hc ne (λk u=>ls (ND n) λi=>bi (decide (k<i)&&decide (u<o.getD i 0))),<-hX,<-eA,<-eA,<-ke Oh (l:=ND n) (bi (decide (r.getD c 0<o.getD (c+1) 0)) -bi (decide (r.getD (c+1) 0<o.getD (c+1) 0))) (NF.mpr hc)];refine bh λi _=>?_
  simp only[iW]
  by_cases e:i=c+1
  ·subst e;rw[if_pos rfl,decide_eq_true (show c<c+1 by omega),decide_eq_false (show¬c+1<c+1 by omega)];simp[bi]
  ·rw[if_neg e]
   by_cases l:c<i
   ·rw[decide_eq_true l,decide_eq_true (show c+1<i by omega)];simp[bi]
   ·rw[decide_eq_false l,decide_eq_false (show¬c+1<i by omega)];simp[bi]
 have e3:=El R hc' hc ne;have e4:vq n r c (c+1)=0:=tG λk hk=>by
  rw[Ha n hn c hc' hc k (NF.mp hk)]
  by_cases e:k=c
  ·subst e;rw[decide_eq_false (show¬k≠k from λw=>w rfl),PP];simp[bi]
  ·rw[decide_eq_false e];simp[bi]
 have e5:vJ n r c (c+1)=bi (decide (r.getD (c+1) 0<r.getD c 0)):=by
  unfold vJ;rw[decide_eq_false (show¬c+1<c by omega),show(((c+1:Nat):Int) -c) % n=1 by rw[show((c+1:Nat):Int) -c=1 by omega];exact O1 (by omega) (by omega)];simp[bi]
 rw[e4,e5] at e3;have b1:=gD (r.getD c 0) (o.getD (c+1) 0);have b2:=gD (r.getD (c+1) 0) (o.getD (c+1) 0);unfold kW;omega
end
def Mj(n a b p q s e:Nat):Bool:=(bC n s e (bA a b p)&&((!bC n s (jO n (bA a b p)) p&& !bC n s (jO n (bA a b p)) q)&&(!bC n (jO n (bA a b p)) e a&& !bC n (jO n (bA a b p)) e b)))
def L3(n T U A1 A2 B1 B2 s e:Nat):Bool:=bC n s e U&&(bC n s U T&&((!bC n s (jO n T) A1&& !bC n s (jO n T) A2)&&((!bC n (jO n T) (jO n U) B1&& !bC n (jO n T) (jO n U) B2)&&(!bC n (jO n U) e A1&& !bC n (jO n U) e A2))))
def MI(a b p q:Nat):Bool:=a !=b&&a !=p&&a !=q&&b !=p&&b !=q&&p !=q&&(nJ p a b==nJ q a b)
def dR(n a p s e:Nat):Int:=2*bi (decide (a<e)) -2*bi (decide (p<e)) -1+2*bi (decide (p<a)) -1+2*bi (bC n s e p)
def dL(n a p s e:Nat):Int:=2*bi (decide (a<s)) -2*bi (decide (p<s)) -1+2*bi (decide (p<a)) -1+2*bi (bC n s e a)
def Nn(n a b p q s e:Nat):Bool:= !MI a b p q||((!Mj n a b p q s e||(decide (dR n a p s e=0)&&(decide (dR n b q s e=0)&&(decide (dL n a p s e=0)&&decide (dL n b q s e=0)))))&&
 ((!L3 n (bA a b p) (bA p q a) p q a b s e||(bC n s e p&&bC n s e q))&&(!L3 n (bA p q a) (bA a b p) a b p q s e||(bC n s e a&&bC n s e b))))
theorem IO:((ND 6).all λn=>(ND n).all λa=>(ND n).all λb=>(ND n).all λp=>(ND n).all λq=>(ND n).all λs=>(ND n).all λe=>Nn n a b p q s e)=true:=by decide+kernel
theorem NI.gck {n a b p q:Nat}(h:NI n a b p q)(h5:n<=5){s e:Nat}(hs:s<n)(he:e<n):
 (Mj n a b p q s e=true->dR n a p s e=0/\dR n b q s e=0/\dL n a p s e=0/\dL n b q s e=0)/\(L3 n (bA a b p) (bA p q a) p q a b s e=true->bC n s e p=true/\bC n s e q=true)/\(L3 n (bA p q a) (bA a b p) a b p q s e=true->bC n s e a=true/\bC n s e b=true):=by
 have k:=IO;have k:=NW.mp k n (NF.mpr (by omega));have k:=NW.mp k a (NF.mpr h.ha);have k:=NW.mp k b (NF.mpr h.hb);have k:=NW.mp k p (NF.mpr h.hp);have k:=NW.mp k q (NF.mpr h.hq);have k:=NW.mp k s (NF.mpr hs);have k:=NW.mp k e (NF.mpr he);have ni:MI a b p q=true:=by
  have h1:=h.ab;have h2:=h.ap;have h3:=h.aq;have h4:=h.bp;have h5:=h.bq;have h6:=h.pq;have h7:=h.ni;simp[MI,h1,h2,h3,h4,h5,h6,h7]
 unfold Nn at k;rw[ni,Qh,RL] at k;simp only[NQ,PD,O0,decide_eq_true_eq] at k;obtain⟨k1,k2,k3⟩:=k;refine⟨λw=>?_,λw=>?_,λw=>?_⟩
 ·rcases k1 with z|z
  ·rw[w] at z;cases z
  ·exact z
 ·rcases k2 with z|z
  ·rw[w] at z;cases z
  ·exact z
 ·rcases k3 with z|z
  ·rw[w] at z;cases z
  ·exact z
section
variable {n c:Nat}{r x o:List Nat}(h5:n<=5)(hc:c+1<n)(R:Ord n r)(X:Ord n x)(N:NI n (r.getD c 0) (x.getD c 0) (r.getD (c+1) 0) (x.getD (c+1) 0))(O:Ord n o)
include h5 hc R X N O
omit X N h5 in
theorem zP(h5:n<=5){a b:Nat}(ha:a<n)(hb:b<n)(ne:a≠b)(ot: ∀k,k<n->k≠c->k≠c+1->rh n o (a,b) k (r.getD k 0)=false):
 (a=c+1->mG n r o a b=bi (bC n (o.getD a 0) (o.getD b 0) (r.getD (c+1) 0)))/\(b=c+1->mG n r o a b=bi (bC n (o.getD a 0) (o.getD b 0) (r.getD c 0))):=by
 have oth: ∀k,k<n->k≠c->k≠c+1->bi (bC n a b k)*bi (bC n (o.getD a 0) (o.getD b 0) (r.getD k 0))=0:=λk hk k1 k2=>by
  have:=ot k hk k1 k2;unfold rh at this;rw[<-iW,this];rfl
 constructor
 ·intro e;subst e;have f:=pj n (by omega) c (by omega) hc b hb (OX ne);unfold mG;rw[<-ke Oh (l:=ND n) (bi (bC n (o.getD (c+1) 0) (o.getD b 0) (r.getD (c+1) 0))) (NF.mpr hc)];refine bh λk hk=>?_
  by_cases e1:k=c+1
  ·subst e1;rw[if_pos rfl,f.2.2.2];simp[bi]
  ·rw[if_neg e1]
   by_cases e2:k=c
   ·subst e2;rw[f.1];simp[bi]
   ·exact oth k (NF.mp hk) e2 e1
 ·intro e;subst e;have f:=pj n (by omega) c (by omega) hc a ha ne;unfold mG;rw[<-ke Oh (l:=ND n) (bi (bC n (o.getD a 0) (o.getD (c+1) 0) (r.getD c 0))) (NF.mpr (show c<n by omega))];refine bh λk hk=>?_
  by_cases e1:k=c
  ·subst e1;rw[if_pos rfl,f.2.1];simp[bi]
  ·rw[if_neg e1]
   by_cases e2:k=c+1
   ·subst e2;rw[f.2.2.1];simp[bi]
   ·exact oth k (NF.mp hk) e1 e2
omit R X N h5 hc in
theorem Hj {a b:Nat}(ha:a<n)(hb:b<n)(ne:a≠b)(bare:bJ o a b=true):vq n o a b=0:=tG λk hk=>by
 have q:=(iC O ha hb ne).mp bare k (NF.mp hk);rw[<-iW];cases e:bC n a b k&&(decide (k≠a)&&bC n (o.getD a 0) (o.getD b 0) (o.getD k 0)) with
 |false=>rfl
 |true=>
  rw[NQ,NQ,decide_eq_true_eq] at e;exact absurd ⟨e.1,e.2.1,e.2.2,λw=>e.2.1 (O.inj (NF.mp hk) ha w)⟩ q
theorem Gy {a b:Nat}(ha:a<n)(hb:b<n)(ne:a≠b)(B:G3 n c r x (bA (r.getD c 0) (x.getD c 0) (r.getD (c+1) 0)) (r.getD (c+1) 0) (x.getD (c+1) 0) (r.getD c 0) (x.getD c 0) o a b):
 kW n (br r c (c+1)) (br o a b)=kW n r o/\kW n (br x c (c+1)) (br o a b)=kW n x o:=by
 obtain⟨bare,⟨hi,hT,nA,nB⟩,ot⟩:=B;have E:=O.exx ha hb
 have g:=(N.gck h5 (O.get ha) (O.get hb)).1 (by
  unfold Mj;rw[hT,nA.1,nA.2,nB.1,nB.2];rfl)
 have rk:=Hj O ha hb ne bare;have q1:=CG O R ha hb ne;have q2:=CG O X ha hb ne;have w1:=AC E R (by omega) hc;have w2:=AC E X (by omega) hc;have g1:=zP hc R O h5 ha hb ne λk hk k1 k2=>(ot k hk k1 k2).1
 have g2:=zP hc X O h5 ha hb ne λk hk k1 k2=>(ot k hk k1 k2).2
 rw[rk] at q1 q2;rcases hi with e|e
 ·have h1:=g1.1 e;have h2:=g2.1 e;have eh:(br o a b).getD (c+1) 0=o.getD b 0:=by
   rw[du (by rw[O.len];exact ha) (by rw[O.len];exact hb),if_neg (λw=>ne (e.trans w)),if_pos e.symm]
  rw[eh] at w1 w2;have d1:=g.1;have d2:=g.2.1;unfold dR at d1 d2;omega
 ·have h1:=g1.2 e;have h2:=g2.2 e;have eh:(br o a b).getD (c+1) 0=o.getD a 0:=by
   rw[du (by rw[O.len];exact ha) (by rw[O.len];exact hb),if_pos e.symm]
  rw[eh] at w1 w2;have d1:=g.2.2.1;have d2:=g.2.2.2;unfold dL at d1 d2;omega
end
def xx(c k:Nat):Nat:=if k=c+1 then c else if k=c then c+1 else k
theorem pN {n:Nat}{x:List Nat}(X:Ord n x){v j:Nat}(hv:v<n)(h:mP (ay x) (nI v)=some (nI j)):x.getD j 0=v:=by
 obtain⟨i,h1,h2,h3⟩:=vP v x (X.has hv);have:mP (ay x) (nI v)=some (nI i):=by
  show(if cE (x.map nI)<=32 then(o4 (x.map nI) (nI v)).map (λj=>D.int j) else none)=_;rw[if_pos (by rw[hZ];omega)];unfold o4;rw[h1];rfl
 rw[this] at h;have:(i:Int)=j:=by injection h with h;injection h
 have:i=j:=by omega
 rw[<-this];exact h3
theorem C6 {n c:Nat}{r x:List Nat}{S S':Nat->Nat}(R:Ord n r)(X:Ord n x)(hc:c+1<n)(H:Sg n r x S)(H':Sg n (br r c (c+1)) (br x c (c+1)) S'):((ND n).filter (iS S')).length=((ND n).filter (iS S)).length:=by
 have hc':c<n:=by omega
 have Re:=R.exx hc' hc;have Xe:=X.exx hc' hc;have lt: ∀k,k<n->xx c k<n:=λk hk=>by unfold xx;split<;>(try split)<;>omega
 have inv: ∀k,xx c (xx c k)=k:=λk=>by unfold xx;split<;>split<;>(try split)<;>omega
 have gt: ∀ {l:List Nat},l.length=n-> ∀k,k<n->(br l c (c+1)).getD (xx c k) 0=l.getD k 0:=λ{l} hl k hk=>by
  rw[du (by omega) (by omega)];unfold xx
  by_cases e1:k=c+1
  ·rw[if_pos e1,if_neg (show c≠c+1 by omega),if_pos rfl,e1]
  ·rw[if_neg e1]
   by_cases e2:k=c
   ·rw[if_pos e2,if_pos rfl,e2]
   ·rw[if_neg e2,if_neg e1,if_neg e2]
 have st: ∀k,k<n->S' (xx c k)=xx c (S k):=λk hk=>by
  have e1:=pN X (R.get hk) (H.ev k hk);have e2:=pN Xe (Re.get (lt k hk)) (H'.ev _ (lt k hk));rw[gt R.len k hk] at e2;exact Xe.inj (H'.lt _ (lt k hk)) (lt _ (H.lt k hk)) (by rw[e2,gt X.len _ (H.lt k hk),e1])
 have it: ∀a,a<n-> ∀m,nM S m a<n/\nM S' m (xx c a)=xx c (nM S m a):=λa ha m=>by
  induction m with
  |zero=>exact⟨ha,rfl⟩
  |succ m ih=>exact⟨H.lt _ ih.1,by show S' _=xx c (S _);rw[ih.2,st _ ih.1]⟩
 have inj: ∀a b,xx c a=xx c b->a=b:=λa b e=>by rw[<-inv a,e,inv]
 exact Cs H H' lt (λk hk=>⟨xx c k,lt k hk,inv k⟩) λa b ha hb=>⟨λ⟨m,e⟩=>⟨m,inj _ _ ((it a ha m).2.symm.trans e)⟩,λ⟨m,e⟩=>⟨m,(it a ha m).2.trans (by rw[e])⟩⟩
theorem gp {n:Nat}{o:List Nat}(O:Ord n o):bv (bv o)=o:=mO (by rw[g9,g9]) λc hc=>by
 have hc:c<n:=by rw[g9,g9,O.len] at hc;exact hc
 rw[fK O.tip hc];have:=xP O.tip (c:=o.getD c 0) (O.get hc);rw[fG O hc] at this;exact this
def tK(k:List Int):List Int:=zs (bv (uz k))
theorem nn(o:List Nat):tK (zs o)=zs (bv o):=by unfold tK;rw[iG]
theorem DM {n:Nat}{k:List Int}(h: ∃o,Ord n o/\k=zs o):tK (tK k)=k:=by
 obtain⟨o,O,rfl⟩:=h;rw[nn,nn,gp O]
theorem yw {n:Nat}{a b:List Int}(A: ∃o,Ord n o/\a=zs o)(B: ∃o,Ord n o/\b=zs o)(e:tK a=tK b):a=b:=by rw[<-DM A,e,DM B]
theorem ub {n:Nat}{K:List (List Int)}(hK:jK n K):jK n (K.map tK):=λz hz=>by
 obtain⟨k,hk,rfl⟩:=N5.mp hz;obtain⟨o,O,rfl⟩:=hK k hk;exact⟨_,O.tip,nn o⟩
theorem uF {n:Nat}{K:List (List Int)}(hK:jK n K):jK n (bj bu K):=λz hz=>hK z ((aS (lt:=bu) K).mem_iff.mp hz)
theorem GO {n:Nat}{K:List (List Int)}(hK:jK n K):bj bu ((bj bu (K.map tK)).map tK)=bj bu K:=by
 refine iM (((aS (lt:=bu) (K.map tK)).map tK).trans ?_);rw[N6];refine W4 ?_
 exact(Oq λk hk=>DM (hK k hk)).trans (T0 K)
theorem F6(K:List (List Int)):bj bu (cn K)=cn K:=iM (aS (lt:=bu) (ox K))
theorem Ir {n:Nat}{r x o:List Nat}(O:Ord n o)(R:Ord n r)(X:Ord n x):(eI n (bv r) (bv x) (tK (zs o))).Perm ((eI n r x (zs o)).map tK):=by
 rw[nn];unfold eI;rw[iG,iG,N6];have p:(sp n (cg (bv r) (bv x) (bv o))).Perm ((sp n (cg r x o)).map λp=>(o.getD p.1 0,o.getD p.2 0)):=by
  refine(Ou (DR n _) ?_).mpr λp=>?_
  ·rw[QI,OY];refine O4 (λ{a b} ha hb ne e=>ne ?_) (DR n _);have ha:=sp_mem.mp ha;have hb:=sp_mem.mp hb;injection e with e1 e2
   exact Xb (O.inj ha.1 hb.1 e1) (O.inj ha.2.1 hb.2.1 e2)
  ·rw[N5];constructor
   ·intro hp;obtain⟨h1,h2,h3,h4⟩:=sp_mem.mp hp;have ia:=cv O h1;have ib:=cv O h2;rw[<-ia.2,<-ib.2] at h3 h4;have ne:o.idxOf p.1≠o.idxOf p.2:=λe=>h3 (by rw[e])
    rw[wM O R X ia.1 ib.1 ne] at h4;exact⟨(o.idxOf p.1,o.idxOf p.2),sp_mem.mpr ⟨ia.1,ib.1,ne,h4⟩,Xb ia.2 ib.2⟩
   ·rintro⟨q,hq,rfl⟩;obtain⟨h1,h2,h3,h4⟩:=sp_mem.mp hq;exact sp_mem.mpr ⟨O.get h1,O.get h2,λe=>h3 (O.inj h1 h2 e),(wM O R X h1 h2 h3).trans h4⟩
 refine(p.map _).trans (W4 ?_);rw[N6];refine Oq λq hq=>?_
 obtain⟨h1,h2,h3,h4⟩:=sp_mem.mp hq;show zs _=tK (zs _);rw[nn,IB O h1 h2 (O.exx h1 h2)]
theorem Dm {n:Nat}{r x:List Nat}(R:Ord n r)(X:Ord n x): ∀ {K:List (List Int)},jK n K->(bK n (bv r) (bv x) (K.map tK)).Perm ((bK n r x K).map tK)
 | [],_=>.nil
 |k::K,hK=>by
  obtain⟨o,O,rfl⟩:=hK k Oe;unfold bK;rw[NS,Oj,Oj,O3];exact(Ir O R X).append (Dm R X λy hy=>hK y (N3 _ hy))
theorem zu {n:Nat}{r x:List Nat}(R:Ord n r)(X:Ord n x){K:List (List Int)}(hK:jK n K):(bK n (bv r) (bv x) (bj bu (K.map tK))).Perm ((bK n r x K).map tK):=(GD (aS (lt:=bu) (K.map tK))).trans (Dm R X hK)
theorem y8 {n:Nat}{r x:List Nat}(R:Ord n r)(X:Ord n x){K:List (List Int)}(hK:jK n K):J9 n (bv r) (bv x) (bj bu (K.map tK))=bj bu ((J9 n r x K).map tK):=by
 have hM:=xw (r:=r) (x:=x) hK;have p:=zu R X hK;symm;refine ss ?_ λz=>?_
 ·rw[QI,OY];have hb:=tX (r:=r) (x:=x) hK;exact O4 (λ{a b} ha hb' ne e=>ne (yw (hb a ha) (hb b hb') e)) (sn _)
 ·rw[p.count_eq];constructor
  ·intro hz;obtain⟨y,hy,rfl⟩:=N5.mp hz;have h1:(bK n r x K).count y % 2=1:=mem_oddSrt.mp hy;rw[oA tK y _ λa ha e=>yw (hM a ha) (tX hK y hy) e];exact h1
  ·intro hz;have h1:0<((bK n r x K).map tK).count z:=by omega
   obtain⟨y,hy,rfl⟩:=N5.mp (PV.mp h1);rw[oA tK y _ λa ha e=>yw (hM a ha) (hM y hy) e] at hz;exact Vw (mem_oddSrt.mpr hz)
theorem AM(f:List Int->Nat): ∀ {A L:List (List Int)},A.Nodup->(∀a∈A,a∈L)->(A.map f).sum<=(L.map f).sum
 | [],L,_,_=>Pe _
 |a::A,L,nd,h=>by
  rw[PQ] at nd;have hm:=h a Oe;have p:=List.perm_cons_erase hm;rw[qm (p.map f),NS,OC,NS,OC];refine Vo (AM f nd.2 λb hb=>?_) _;have ne:b≠a:=λe=>nd.1 (by rw[<-e];exact hb)
  exact(List.mem_erase_of_ne ne).mpr (h b (N3 _ hb))
theorem pB {α:Type}(g:List Int->List α): ∀l:List (List Int),(l.flatMap g).length=(l.map λk=>(g k).length).sum
 | []=>rfl
 |a::l=>by rw[Oj,Of,pB g l,NS,OC]
theorem Ac {n:Nat}{F G:List Nat->Nat->Nat->Bool}(o:List Nat):((wx (eR n F) [zs o]).flatMap (eR n G)).length<=(two n F G o).length:=by
 rw[<-uw,pB,pB];refine AM _ (sn _) λa ha=>?_
 have h1:([zs o].flatMap (eR n F)).count a % 2=1:=mem_oddSrt.mp ha;have:=PV.mp (show 0<([zs o].flatMap (eR n F)).count a by omega);rwa [Oj,SH,O2] at this
theorem HJ {n:Nat}{f g:Nat->Nat->Nat}(h: ∀a b,a<n->b<n->f a b<=g a b):s2 n f<=s2 n g:=by
 have l1: ∀(l:List Nat) (f g:Nat->Nat),(∀a∈l,f a<=g a)->(l.map f).sum<=(l.map g).sum:=λl f g h=>by
  induction l with
  |nil=>exact NT _
  |cons a l ih=>rw[NS,NS,OC,OC];exact XQ (h a Oe) (ih λb hb=>h b (N3 _ hb))
 exact l1 _ _ _ λa ha=>l1 _ _ _ λb hb=>h a b (NF.mp ha) (NF.mp hb)
theorem uG {α:Type}: ∀l:List α,(l.map λ_=>1).sum=l.length
 | []=>rfl
 |a::l=>by rw[NS,OC,uG l,On,Wi]
section
variable {n c p:Nat}{r x o:List Nat}
theorem z6 {F G:List Nat->Nat->Nat->Bool}{F' G':TK}(h4:4<=n)(h5:n<=5)(hF:HF n c p r x F F')(hG:HF n c p r x G G')(O:Ord n o):(two n F G o).length<=(IM n (rl c p o) F' G').length:=by
 have h:0<n:=by omega
 have T:=jI h c;have Or:=jw (c:=c) (p:=p) h O;have bm: ∀ {o:List Nat},Ord n o-> ∀a b,a<n->b<n->a≠b->bJ (rl c p o) (aL n c a) (aL n c b)=bJ o a b:=λO a b ha hb ne=>Ao (u:=aL n p) T (jI h p) O (jw h O) (λk hk=>lc h O.len hk) ha hb ne
 rw[<-uG (IM n (rl c p o) F' G'),Am (by omega) (by omega) Or];rw[<-uG (two n F G o)];unfold two;rw[mF,qt];refine OE (HJ λa b ha hb=>?_) (Ux (zI T _))
 by_cases ne:a=b
 ·rw[decide_eq_false (show¬a≠b from λw=>w ne),PP];exact Pe _
 have ne':aL n c a≠aL n c b:=λe=>ne (T.inj a b ha hb e)
 rw[decide_eq_true ne,decide_eq_true ne',OB,OB,hF o O a b ha hb ne,bm O a b ha hb ne,<-EG h O ha hb];have E:=O.exx ha hb;cases bJ o a b with
 |false=>exact NT _
 |true=>
  rw[OB,OB];cases F' (rl c p o) (aL n c a) (aL n c b) (jR n (rl c p o) (aL n c a) (aL n c b)) with
  |false=>exact NT _
  |true=>
   rw[OB,if_pos (rfl:true=true)];split
   ·rw[N6,qt];refine OE (HJ λd e hd he=>?_) (Ux (zI T _))
    by_cases nd:d=e
    ·rw[decide_eq_false (show¬d≠e from λw=>w nd),PP];exact Pe _
    have nd':aL n c d≠aL n c e:=λw=>nd (T.inj d e hd he w)
    rw[decide_eq_true nd,decide_eq_true nd',OB,OB,hG _ E d e hd he nd,bm E d e hd he nd];cases bJ (br o a b) d e<;>cases G' (rl c p (br o a b)) (aL n c d) (aL n c e) (jR n (rl c p (br o a b)) (aL n c d) (aL n c e))<;>cases xi n c p r x (jR n (rl c p (br o a b)) (aL n c d) (aL n c e))<;>simp
   ·exact Pe _
end
section
variable {n c:Nat}{r x r' x' o:List Nat}(h4:4<=n)(h5:n<=5)(hc:c+1<n)(R:Ord n r)(X:Ord n x)(R':Ord n r')(X':Ord n x')(N:NI n (r.getD c 0) (x.getD c 0) (r.getD (c+1) 0) (x.getD (c+1) 0))
 (ag: ∀k,k<n->k≠c->k≠c+1->r'.getD k 0=r.getD k 0/\x'.getD k 0=x.getD k 0) (s1:r'.getD c 0=r.getD (c+1) 0) (s2:r'.getD (c+1) 0=r.getD c 0) (s3:x'.getD c 0=x.getD (c+1) 0) (s4:x'.getD (c+1) 0=x.getD c 0)
include h4 h5 hc R X R' X' N ag s1 s2 s3 s4
theorem Km {B:List Nat->Nat->Nat->Bool}(hB: ∀o,Ord n o-> ∀a b,a<n->b<n->a≠b->(B o a b=true↔G3 n c r x (bA (r.getD c 0) (x.getD c 0) (r.getD (c+1) 0)) (r.getD (c+1) 0) (x.getD (c+1) 0) (r.getD c 0) (x.getD c 0) o a b))(O:Ord n o):
 (two n (cg r x) B o).length+(two n B (cg r' x') o).length<=63:=by
 obtain⟨r1,l,c1,c2,c3,c4,c5⟩:=N.cfg h5;obtain⟨tl,vl⟩:=ur N;generalize bA (r.getD (c+1) 0) (x.getD (c+1) 0) (r.getD c 0)=V at c1 c2 c4 vl;generalize bA (r.getD c 0) (x.getD c 0) (r.getD (c+1) 0)=T at hB tl c1 c2 c3 c4 c5;have h0:0<n:=by omega
 have k1:HF n c T r x (cg r x) (HL n r1 (aL n T V) (n-1) l):=pH h4 h5 hc R X (λ_ _ _ _=>⟨rfl,rfl⟩) c4 c5;have k2:HF n c T r x (cg r' x') (HL n (n-1) l r1 (aL n T V)):=pH h4 h5 hc R' X' ag (by rw[s2,s4];exact c5) (by rw[s1,s3];exact c4);have k3:HF n c T r x B (Lf n (n-1) r1 (aL n T V) (n-1) l):=by
  have:=Ad (p:=T) h4 h5 hc R X tl (R.get hc) (X.get hc) (R.get (by omega)) (X.get (by omega)) c4 c5 hB;rwa [mS tl] at this
 have q:=Iq (Nh h4 h5 c1 c2 c3 (jw (c:=c) (p:=T) h0 O));unfold nG at q;rw[Of] at q;exact OE (XQ (z6 h4 h5 k1 k3 O) (z6 h4 h5 k3 k2 O)) q
end
abbrev jP:=List Nat×List Nat
def kr(S:jP):D:=c6 S.1 S.2
def rd(S:jP)(c y:Nat):Bool:=decide (y=S.1.getD c 0\/y=S.2.getD c 0)
def Ln(n:Nat)(S:jP):Prop:=S.1.length=n/\S.2.length=n
theorem An {n:Nat}{S:jP}(h:Ln n S){c:Nat}(hc:c<n)(y:Nat):cP [kr S,nI c,nI y]=some (.bl (rd S c y)):=by
 apply aV (kd:=.s) (n:=5) (t:=lE);unfold lE;refine(aA (ρ':=[.v (kr S),.v (nI c),.v (nI y),.v (ay S.1),.v (ay S.2)]) (dS (fU rfl) rfl)).trans (aT ((aB (x:=nI y) rfl (ck (ds:=[nI (S.1.getD c 0),nI (S.2.getD c 0)]) (al ((aB (x:=ay S.1) (y:=nI c) rfl rfl).trans (gb (by rw[h.1];exact hc))) (al ((aB (x:=ay S.2) (y:=nI c) rfl rfl).trans (gb (by rw[h.2];exact hc))) rfl)) (by simp))).trans (Ni _ _ _)))
theorem Cu(C R:List Nat)(f:Nat->Nat->Bool):(C.flatMap λc=>R.map λy=>f c y).any id=C.any λc=>R.any λy=>f c y:=by
 induction C with
 |nil=>rfl
 |cons c C ih=>rw[Oj,List.any_append,ih,QY,UB];rfl
theorem C5 {α:Type}(C:List Nat)(R:List Nat)(f:Nat->Nat->α):(C.flatMap λc=>R.map λy=>f c y).length=C.length*R.length:=by
 induction C with
 |nil=>simp
 |cons c C ih=>rw[Oj,Of,ih,NK,On,YL];omega
theorem BO {n:Nat}{S:jP}(h:Ln n S){C R:List Nat}(hC: ∀c∈C,c<n)(hl:C.length*R.length<=1000):cU [kr S,.lst (C.map nI),.lst (R.map nI)]=some (.bl (!C.any λc=>R.any λy=>rd S c y)):=by
 apply aV (kd:=.s) (n:=3) (t:=fY);unfold fY;refine aT (qi (lU (bY ?_)));have cp:kl 2 (cX (ai 1)) (gN 3) (bT) (cX (ai 2)) (gN 4) (bT) (ak (nF 3 cP) (aa (ai 0) (aa (ai 3) (aa (ai 4) (aj))))) (ka 3 [kr S,.lst (C.map nI),.lst (R.map nI)])=some (.lst ((C.flatMap λc=>R.map λy=>rd S c y).map D.bl)):=by
  refine kB (ds:=C.map nI) (fD rfl) ?_ (by rw[NK,C5];exact hl)
  refine(dz (h:=nI) (q:=λ_=>true) (o:=λc=>R.map λy=>D.bl (rd S c y)) C λc hc=>⟨_,rfl,rfl,λ_=>?_⟩).trans ?_
  ·refine n5 (ds:=R.map nI) (fD rfl) ?_
   refine(dz (h:=nI) (q:=λ_=>true) (o:=λy=>[D.bl (rd S c y)]) R λy hy=>⟨_,rfl,rfl,λ_=>?_⟩).trans ?_
   ·exact kJ ((aN (ds:=[kr S,nI c,nI y]) rfl rfl).trans (An h (hC c hc) y))
   ·rw[jT,OW.mpr λ_ _=>rfl]
  ·rw[OW.mpr (λ_ _=>rfl),Qf];congr 2;funext c;rw[N6];rfl
 rw[bD (al cp rfl),tN,Cu]
def jH(sides:List jP)(turns:List Nat)(col:Nat):Nat->List Nat->Bool
 |_,[]=>true
 |at_,y::R=> !rd (sides.getD at_ ([],[])) col y&&jH sides turns col (at_+if y∈turns then 1 else 0) R
def wE:FS:=aC (fB (fA (ak (nF 3 cP) (aa (aw bo (ai 3) (ai 5)) (aa (ai 0) (aa (ai 6) (aj)))))) (aW (aD (.bl false))) (skip))
 (fB (bQ (aw (kR false) (ai 6) (ai 4))) (Dn bP 5 (aD (.int 1))) (skip))
theorem sq {n:Nat}{sides:List jP}{turns:List Nat}{col:Nat}(hs: ∀S∈sides,Ln n S)(hc:col<n)(dr db:D): ∀(R:List Nat) (at_:Nat) (s6:Sl),at_+(R.filter λy=>decide (y∈turns)).length<sides.length->
 (jH sides turns col at_ R=true-> ∃s5 s6',fO (gN 6) wE (R.map nI) [.v (nI col),.v dr,.v db,.v (.lst (sides.map kr)),.v (.lst (turns.map nI)),.v (nI at_),s6]=.nx [.v (nI col),.v dr,.v db,.v (.lst (sides.map kr)),.v (.lst (turns.map nI)),s5,s6'])/\
 (jH sides turns col at_ R=false-> ∃ρ,fO (gN 6) wE (R.map nI) [.v (nI col),.v dr,.v db,.v (.lst (sides.map kr)),.v (.lst (turns.map nI)),.v (nI at_),s6]=.rt (.bl false) ρ)
 | [],at_,s6,_=>⟨λ_=>⟨_,_,rfl⟩,λh=>by cases h⟩
 |y::R,at_,s6,hl=>by
  let st:Nat->aF:=λm=>[.v (nI col),.v dr,.v db,.v (.lst (sides.map kr)),.v (.lst (turns.map nI)),.v (nI m),.v (nI y)]
  have la:at_<sides.length:=by omega
  have es:sides.getD at_ ([],[])=sides[at_]:=by simp[OJ,la]
  have m1:fA (ak (nF 3 cP) (aa (aw bo (ai 3) (ai 5)) (aa (ai 0) (aa (ai 6) (aj))))) (st at_)=some (rd (sides.getD at_ ([],[])) col y):=by
   refine jd ((aN (ds:=[kr (sides.getD at_ ([],[])),nI col,nI y]) (al ((aB (x:=.lst (sides.map kr)) (y:=nI at_) rfl rfl).trans (uq (by rw[OH,NL la,es];rfl))) rfl) rfl).trans (An (n:=n) ?_ hc y));rw[es];exact hs _ (SE la)
  have m2:bQ (aw (kR false) (ai 6) (ai 4)) (st at_)=some (decide (y∈turns)):=bY ((aB (x:=nI y) (y:=.lst (turns.map nI)) rfl rfl).trans (Mi _ _));have q2:fB (bQ (aw (kR false) (ai 6) (ai 4))) (Dn bP 5 (aD (.int 1))) (skip) (st at_)=.nx (st (at_+if y∈turns then 1 else 0)):=by
   by_cases e:y∈turns
   ·rw[decide_eq_true e] at m2;rw[if_pos e,gF m2];rfl
   ·rw[decide_eq_false e] at m2;rw[if_neg e,mq m2];rfl
  unfold jH;rw[NS];cases e:rd (sides.getD at_ ([],[])) col y with
  |true=>
   rw[e] at m1;refine⟨λh=>by simp at h,λ_=>⟨st at_,?_⟩⟩;have:wE (st at_)=.rt (.bl false) (st at_):=nW ((gF m1).trans rfl);exact GC (ρ1:=st at_) rfl this
  |false=>
   rw[e] at m1;rw[XI,OB];have hb:wE (st at_)=.nx (st (at_+if y∈turns then 1 else 0)):=(aA ((mq m1).trans rfl)).trans q2;rw[fI (ρ1:=st at_) rfl hb];refine sq hs hc dr db R _ (.v (nI y)) ?_
   rw[Sz] at hl
   by_cases e2:y∈turns
   ·rw[if_pos (decide_eq_true e2),On] at hl;rw[if_pos e2];omega
   ·rw[if_neg (by rw[decide_eq_false e2];decide)] at hl;rw[if_neg e2];omega
def dH(sides:List jP)(turns:List Nat):D:=.tup [.lst (sides.map kr),.lst (turns.map nI)]
theorem F7 {n:Nat}{sides:List jP}{turns:List Nat}{col:Nat}(hs: ∀S∈sides,Ln n S)(hc:col<n)(R:List Nat)(hl:(R.filter λy=>decide (y∈turns)).length<sides.length):fh [nI col,.lst (R.map nI),dH sides turns]=some (.bl (jH sides turns col 0 R)):=by
 refine qN (kd:=.s) (n:=7) (t:=iZ) ?_
 have k:=sq (n:=n) (turns:=turns) hs hc (.lst (R.map nI)) (dH sides turns) R 0 .no (by omega);unfold iZ;refine(λh=>?_ :(∃ρ,aC (jn (cN (cX (ai 1))) (gN 6) wE) (aW (aD (.bl true))) [.v (nI col),.v (.lst (R.map nI)),.v (dH sides turns),.v (.lst (sides.map kr)),.v (.lst (turns.map nI)),.v (nI 0),.no]=.rt (.bl (jH sides turns col 0 R)) ρ)->_) ?_
 ·obtain⟨ρ,h⟩:=h;exact⟨ρ,(aA (ρ':=[.v (nI col),.v (.lst (R.map nI)),.v (dH sides turns),.v (.lst (sides.map kr)),.v (.lst (turns.map nI)),.no,.no]) (dS (fU rfl) rfl)).trans ((aA (ρ':=[.v (nI col),.v (.lst (R.map nI)),.v (dH sides turns),.v (.lst (sides.map kr)),.v (.lst (turns.map nI)),.v (nI 0),.no]) rfl).trans h)⟩
 ·cases e:jH sides turns col 0 R with
  |true=>
   obtain⟨s5,s6,h⟩:=k.1 e;exact⟨_,(aA ((js (cF (fD rfl))).trans h)).trans rfl⟩
  |false=>
   obtain⟨ρ,h⟩:=k.2 e;exact⟨ρ,nW ((js (cF (fD rfl))).trans h)⟩
def dI(n:Nat)(S:jP)(o:List Nat)(a b col:Nat)(sides:List jP)(turns:List Nat):Bool:=
 decide ((cH n (o.getD a 0) (o.getD b 0)).filter (λy=>decide (y∈turns))=turns)&&(bJ o a b&&((!((cH n a b).filter λc=>decide (c≠col)).any λc=>(cH n (o.getD a 0) (o.getD b 0)).any λy=>rd S c y)&&jH sides turns col 0 (cH n (o.getD a 0) (o.getD b 0))))
theorem IU {n s e c:Nat}(h:0<n)(hc:c∈cH n s e):c<n:=by
 unfold cH at hc;obtain⟨i,_,rfl⟩:=N5.mp hc;exact P4 _ h
theorem F5(l m:List Nat):dq (.lst (l.map nI)) (.lst (m.map nI))=decide (l=m):=by
 have e:=Hh (l.map Vm) (m.map Vm);have inj:l.map Vm=m.map Vm↔l=m:=List.map_inj_right λx y h=>by injection h
 unfold de at e;rw[N6,N6] at e;unfold dq at e⊢;exact e.trans (decide_eq_decide.mpr inj)
theorem sJ {n:Nat}{S:jP}{o:List Nat}{a b col:Nat}{sides:List jP}{turns:List Nat}(h:0<n)(hn:n<=8)(hS:Ln n S)(ho:o.length=n)(ha:a<n)(hb:b<n)(hc:col<n)(hs: ∀S∈sides,Ln n S)(ht:turns.length<sides.length):
 cI [kr S,ay o,nI a,nI b,nI col,dH sides turns]=some (.bl (dI n S o a b col sides turns)):=by
 refine qN (kd:=.s) (n:=10) (t:=nV) ?_
 let R:=cH n (o.getD a 0) (o.getD b 0)
 let C:=(cH n a b).filter λc=>decide (c≠col)
 let st:Sl->Sl->aF:=λs8 s9=>[.v (kr S),.v (ay o),.v (nI a),.v (nI b),.v (nI col),.v (dH sides turns),.v (.lst (sides.map kr)),.v (.lst (turns.map nI)),s8,s9]
 have lR:R.length<n:=ng h _ _;have lC0:(cH n a b).length<n:=ng h _ _;have lC:C.length<n:=Pz (Pf _ _) lC0;unfold nV;have q1:cy (gT 2 (cQ (gN 6) (cQ (gN 7) (gU)))) (pu (ai 5)) (ka 10 [kr S,ay o,nI a,nI b,nI col,dH sides turns])=.nx (st .no .no):=dS (fU rfl) rfl;have q2:a8 8 (ak (nF 3 eG) (aa (ai 1) (aa (ai 2) (aa (ai 3) (aj))))) (st .no .no)=.nx (st (.v (.lst (R.map nI))) .no):=(bd ((aN (ds:=[ay o,nI a,nI b]) rfl rfl).trans (uW ho h (by omega) ha hb))).trans rfl;have c1:bM 1 (cX (ai 8)) (gN 10) (bQ (aw (kR false) (ai 10) (ai 7))) (ai 10) (st (.v (.lst (R.map nI))) .no)=some (.lst ((R.filter λy=>decide (y∈turns)).map nI)):=
  c9 (ds:=R.map nI) (fD rfl) (by rw[NK];omega) (iE (h:=nI) (o:=nI) (q:=λy=>decide (y∈turns)) R λy _=>⟨_,rfl,bY ((aB (x:=nI y) (y:=.lst (turns.map nI)) rfl rfl).trans (Mi _ _)),λ_=>rfl⟩)
 have t1:bQ (aw l9 (bM 1 (cX (ai 8)) (gN 10) (bQ (aw (kR false) (ai 10) (ai 7))) (ai 10)) (ai 7)) (st (.v (.lst (R.map nI))) .no)=some (!decide ((R.filter λy=>decide (y∈turns))=turns)):=by
  refine bY ((aB c1 (y:=.lst (turns.map nI)) rfl).trans ?_);rw[jW (wf _),F5]
 have t2:jj (fA (ak (nF 3 gj) (aa (ai 1) (aa (ai 2) (aa (ai 3) (aj)))))) (st (.v (.lst (R.map nI))) .no)=some (!bJ o a b):=lU (jd ((aN (ds:=[ay o,nI a,nI b]) rfl rfl).trans (zF ho h (by omega) ha hb)));have q3:a8 9 (bM 1 (cX (ak (nF 3 cr) (aa (ai 1) (aa (ai 2) (aa (ai 3) (aj)))))) (gN 10) (bQ (aw l9 (ai 10) (ai 4))) (ai 10)) (st (.v (.lst (R.map nI))) .no)=.nx (st (.v (.lst (R.map nI))) (.v (.lst (C.map nI)))):=by
  refine(bd (c9 (ds:=(cH n a b).map nI) (fD ((aN (ds:=[ay o,nI a,nI b]) rfl rfl).trans (tL ho h (by omega) a b))) (by rw[NK];omega) (iE (h:=nI) (o:=nI) (q:=λc=>decide (c≠col)) (cH n a b) λc _=>⟨_,rfl,bY ((aB (x:=nI c) (y:=nI col) rfl rfl).trans ?_),λ_=>rfl⟩))).trans rfl;rw[jW (by rw[fM];omega),iX];congr 2;rw[Ov];simp
 unfold dI;rw[aA q1,aA q2];cases e1:decide ((cH n (o.getD a 0) (o.getD b 0)).filter (λy=>decide (y∈turns))=turns) with
 |false=>
  have t1:bQ _ _=some (!decide ((cH n (o.getD a 0) (o.getD b 0)).filter (λy=>decide (y∈turns))=turns)):=t1;rw[e1] at t1;exact⟨_,nW ((gF (HP t1)).trans rfl)⟩
 |true=>
  have t1:bQ _ _=some (!decide ((cH n (o.getD a 0) (o.getD b 0)).filter (λy=>decide (y∈turns))=turns)):=t1;rw[e1] at t1;have er:=of_decide_eq_true e1;cases e2:bJ o a b with
  |false=>
   rw[e2] at t2;exact⟨_,nW ((gF (xY t1 t2)).trans rfl)⟩
  |true=>
   rw[e2] at t2;rw[aA (jr (xY t1 t2)),aA q3];have k1:=BO hS (C:=C) (R:=R) (λc hc'=>IU h (OU.mp hc').1) (OE (RA (show C.length<=8 by omega) (show R.length<=8 by omega)) (by omega));have k2:=F7 (n:=n) (turns:=turns) (col:=col) hs hc R (by show(jaS _ (cH n (o.getD a 0) (o.getD b 0))).length<_;rw[er];exact ht);have k1':bQ (ak (nF 3 cU) (aa (ai 0) (aa (ai 9) (aa (ai 8) (aj))))) (st (.v (.lst (R.map nI))) (.v (.lst (C.map nI))))=some (!C.any λc=>R.any λy=>rd S c y):=bY ((aN (ds:=[kr S,.lst (C.map nI),.lst (R.map nI)]) rfl rfl).trans k1);have k2':bQ (ak (nF 3 fh) (aa (ai 4) (aa (ai 8) (aa (ai 5) (aj))))) (st (.v (.lst (R.map nI))) (.v (.lst (C.map nI))))=some (jH sides turns col 0 R):=bY ((aN (ds:=[nI col,.lst (R.map nI),dH sides turns]) rfl rfl).trans k2);refine⟨_,aT (qi ?_)⟩
   rw[OB,OB];exact ma k1' (λz=>by
    have z:(!((cH n a b).filter λc=>decide (c≠col)).any λc=>(cH n (o.getD a 0) (o.getD b 0)).any λy=>rd S c y)=true:=z
    rw[z,OB];exact k2') (λz=>by
    have z:(!((cH n a b).filter λc=>decide (c≠col)).any λc=>(cH n (o.getD a 0) (o.getD b 0)).any λy=>rd S c y)=false:=z
    rw[z];rfl)
def qx(P Q:Nat->Bool)(o:List Nat)(i j:Nat):List (List Nat):=(if(decide (j≠i)&&P j)=true then [br o i j] else [])++(if(decide (j≠i)&&Q j)=true then [br o j i] else [])
def jU(n:Nat)(P Q:Nat->Bool)(o:List Nat)(i:Nat):List (List Nat):=(ND n).flatMap (qx P Q o i)
theorem Fs {n:Nat}{S:jP}{o:List Nat}{c:Nat}{rs ls:List jP}{rt lt:List Nat}(h:0<n)(hn:n<=8)(hS:Ln n S)(ho:o.length=n)(hc:c+1<n)(hrs: ∀S∈rs,Ln n S)(hls: ∀S∈ls,Ln n S)(hrt:rt.length<rs.length)(hlt:lt.length<ls.length):
 eK [kr S,nI c,ay o,dH rs rt,dH ls lt]=some (.lst ((jU n (λj=>dI n S o (c+1) j (c+1) rs rt) (λj=>dI n S o j (c+1) c ls lt) o (c+1)).map ay)):=by
 let P:Nat->Bool:=λj=>dI n S o (c+1) j (c+1) rs rt
 let Q:Nat->Bool:=λj=>dI n S o j (c+1) c ls lt
 let st:List D->Sl->aF:=λF s7=>[.v (kr S),.v (nI c),.v (ay o),.v (dH rs rt),.v (dH ls lt),.v (nI (c+1)),.own F,s7]
 have bl: ∀j,(qx P Q o (c+1) j).length<=2:=λj=>by
  unfold qx;split<;>split<;>simp
 have step: ∀(j:Nat) (F:List D),j<n->F.length<=100->aC (fB (gW (bQ (aw l9 (ai 7) (ai 5))) (fA (ak (nF 6 cI) (aa (ai 0) (aa (ai 2) (aa (ai 5) (aa (ai 7) (aa (ai 5) (aa (ai 3) (aj)))))))))) (cu (aQ 6 1 ic (cN (aa (ak (nF 3 cR) (aa (ai 2) (aa (ai 5) (aa (ai 7) (aj))))) (aj))))) (skip))
  (fB (gW (bQ (aw l9 (ai 7) (ai 5))) (fA (ak (nF 6 cI) (aa (ai 0) (aa (ai 2) (aa (ai 7) (aa (ai 5) (aa (ai 1) (aa (ai 4) (aj)))))))))) (cu (aQ 6 1 ic (cN (aa (ak (nF 3 cR) (aa (ai 2) (aa (ai 7) (aa (ai 5) (aj))))) (aj))))) (skip)) (st F (.v (nI j)))=.nx (st (F++(qx P Q o (c+1) j).map ay) (.v (nI j))):=by
  intro j F hj hF;have ne: ∀F,bQ (aw l9 (ai 7) (ai 5)) (st F (.v (nI j)))=some (decide (j≠c+1)):=λF=>by
   refine bY ((aB (x:=nI j) (y:=nI (c+1)) rfl rfl).trans ?_);rw[jW (by rw[fM];omega),iX];congr 2;rw[Ov];simp
  have p1: ∀F,fA (ak (nF 6 cI) (aa (ai 0) (aa (ai 2) (aa (ai 5) (aa (ai 7) (aa (ai 5) (aa (ai 3) (aj)))))))) (st F (.v (nI j)))=some (P j):=λF=>jd ((aN (ds:=[kr S,ay o,nI (c+1),nI j,nI (c+1),dH rs rt]) rfl rfl).trans (sJ h hn hS ho hc hj hc hrs hrt))
  have p2: ∀F,fA (ak (nF 6 cI) (aa (ai 0) (aa (ai 2) (aa (ai 7) (aa (ai 5) (aa (ai 1) (aa (ai 4) (aj)))))))) (st F (.v (nI j)))=some (Q j):=λF=>jd ((aN (ds:=[kr S,ay o,nI j,nI (c+1),nI c,dH ls lt]) rfl rfl).trans (sJ h hn hS ho hj hc (by omega) hls hlt))
  have b1: ∀F:List D,F.length<=200->cu (aQ 6 1 ic (cN (aa (ak (nF 3 cR) (aa (ai 2) (aa (ai 5) (aa (ai 7) (aj))))) (aj)))) (st F (.v (nI j)))=.nx (st (F++[ay (br o (c+1) j)]) (.v (nI j))):=λF hF=>(uR (i:=6) (b0:=F) (bs:=F) (d:=ay (br o (c+1) j)) rfl (cF (al ((aN (ds:=[ay o,nI (c+1),nI j]) rfl rfl).trans (n8 ho hc hj)) rfl)) rfl (by omega)).trans rfl
  have b2: ∀F:List D,F.length<=200->cu (aQ 6 1 ic (cN (aa (ak (nF 3 cR) (aa (ai 2) (aa (ai 7) (aa (ai 5) (aj))))) (aj)))) (st F (.v (nI j)))=.nx (st (F++[ay (br o j (c+1))]) (.v (nI j))):=λF hF=>(uR (i:=6) (b0:=F) (bs:=F) (d:=ay (br o j (c+1))) rfl (cF (al ((aN (ds:=[ay o,nI j,nI (c+1)]) rfl rfl).trans (n8 ho hj hc)) rfl)) rfl (by omega)).trans rfl
  have an: ∀(F:List D) (f:FT) (v:Bool),f (st F (.v (nI j)))=some v->gW (bQ (aw l9 (ai 7) (ai 5))) f (st F (.v (nI j)))=some (decide (j≠c+1)&&v):=λF f v hv=>ma (ne F) (λz=>by rw[z,OB];exact hv) (λz=>by rw[z];rfl)
  unfold qx;rw[O3,<-Pj];cases e1:(decide (j≠c+1)&&P j) with
  |true=>
   have a1:=an F _ _ (p1 F);rw[e1] at a1;rw[if_pos rfl,aA ((gF a1).trans (b1 F (by omega)))];have a2:=an (F++[ay (br o (c+1) j)]) _ _ (p2 _);cases e2:(decide (j≠c+1)&&Q j) with
   |true=>rw[e2] at a2;rw[if_pos rfl,gF a2];exact b2 _ (by simp;omega)
   |false=>rw[e2] at a2;rw[if_neg (by decide),jr a2,Qu,O2];try rfl
  |false=>
   have a1:=an F _ _ (p1 F);rw[e1] at a1;rw[if_neg (by decide),aA (jr a1),Qu,O2];have a2:=an F _ _ (p2 _);cases e2:(decide (j≠c+1)&&Q j) with
   |true=>rw[e2] at a2;rw[if_pos rfl,gF a2];exact b2 _ (by omega)
   |false=>rw[e2] at a2;rw[if_neg (by decide),jr a2,Qu,O2];try rfl
 have fl: ∀k,((ND k).flatMap (qx P Q o (c+1))).length<=2*k:=λk=>by
  induction k with
  |zero=>simp
  |succ k ih=>
   rw[UM,Vx,Of,UG];have:=bl k;omega
 obtain⟨ρ',hf,s7,rfl⟩:=zW (g:=gN 7) (b:=aC (fB (gW (bQ (aw l9 (ai 7) (ai 5))) (fA (ak (nF 6 cI) (aa (ai 0) (aa (ai 2) (aa (ai 5) (aa (ai 7) (aa (ai 5) (aa (ai 3) (aj)))))))))) (cu (aQ 6 1 ic (cN (aa (ak (nF 3 cR) (aa (ai 2) (aa (ai 5) (aa (ai 7) (aj))))) (aj))))) (skip))
  (fB (gW (bQ (aw l9 (ai 7) (ai 5))) (fA (ak (nF 6 cI) (aa (ai 0) (aa (ai 2) (aa (ai 7) (aa (ai 5) (aa (ai 1) (aa (ai 4) (aj)))))))))) (cu (aQ 6 1 ic (cN (aa (ak (nF 3 cR) (aa (ai 2) (aa (ai 7) (aa (ai 5) (aj))))) (aj))))) (skip)))
  (P:=λj ρ=> ∃s7,ρ=st (((ND j).flatMap (qx P Q o (c+1))).map ay) s7) n 0 (λj ρ _ hj hq_=>by
    obtain⟨s7,e⟩:=hq_;subst e;rw[Qt] at hj;refine⟨_,_,rfl,step j _ hj (by rw[NK];have:=fl j;omega),.v (nI j),?_⟩
    rw[UM,Vx,UG,O3]) (st [] .no) ⟨.no,rfl⟩
 rw[Qt] at hf;apply aV (kd:=.n) (n:=8) (t:=kh);unfold kh;refine(aA (ρ':=[.v (kr S),.v (nI c),.v (ay o),.v (dH rs rt),.v (dH ls lt),.v (nI (c+1)),.no,.no]) ((bd ((aB (x:=nI c) (y:=.int 1) rfl rfl).trans (Ce c))).trans rfl)).trans ?_
 refine(aA (ρ':=st [] .no) ((mw (fo (ds:=[]) rfl (by simp))).trans rfl)).trans ?_
 refine(aA ((js (ds:=(ND n).map nI) (cF (gM (n:=n) (al ((gx o _ _ rfl).trans (by rw[ho])) rfl) (by omega)))).trans (by rw[SO];exact hf))).trans rfl
theorem xM {n s t:Nat}(hs:s<n)(ht:t<n):(s+(((t:Int) -s) % n).toNat) % n=t:=by
 have m:=pE ((t:Int) -s) (show 0<n by omega);have e:((t:Int) -s) % n=if s<=t then(t:Int) -s else(t:Int) -s+n:=by
  split
  ·exact O1 (by omega) (by omega)
  ·rw[<-RV];exact O1 (by omega) (by omega)
 rw[e] at m⊢;split
 ·rw[show s+((t:Int) -s).toNat=t by omega];exact Qg ht
 ·rw[show s+((t:Int) -s+n).toNat=t+n by omega,Nat.add_mod_right];exact Qg ht
theorem tO {n s e h:Nat}(hh:h<(((e:Int) -s) % n).toNat):(cH n s e).getD h 0=(s+h) % n:=by
 unfold cH;rw[OJ,OH,RE hh];rfl
theorem qC(n s e:Nat):(cH n s e).length=(((e:Int) -s) % n).toNat:=by unfold cH;simp
theorem mz {n s e t:Nat}(h:0<n):bC n s e t=true↔(((t:Int) -s) % n).toNat<(((e:Int) -s) % n).toNat:=by
 have m1:=pE ((t:Int) -s) h;have m2:=pE ((e:Int) -s) h;unfold bC;rw[decide_eq_true_eq];omega
theorem sS(sides:List jP)(turns:List Nat)(col:Nat): ∀(R:List Nat) (at_:Nat),jH sides turns col at_ R=(ND R.length).all λh=> !rd (sides.getD (at_+((R.take h).filter λy=>decide (y∈turns)).length) ([],[])) col (R.getD h 0)
 | [],at_=>rfl
 |y::R,at_=>by
  unfold jH;rw[sS sides turns col R,On,Qx,T6,Uy];congr 1;congr 1;funext h;show _= !rd (sides.getD (at_+(((y::R).take (h+1)).filter λy=>decide (y∈turns)).length) ([],[])) col ((y::R).getD (h+1) 0);rw[S5,Sz]
  by_cases e:y∈turns
  ·rw[if_pos e,if_pos (decide_eq_true e),On];rw[show at_+1+((R.take h).filter λy=>decide (y∈turns)).length=at_+(((R.take h).filter λy=>decide (y∈turns)).length+1) by omega];rfl
  ·rw[if_neg e,if_neg (by rw[decide_eq_false e];decide),S7];rfl
theorem DC {R:List Nat}(nd:R.Nodup){T τ:Nat}(hτ:τ<R.length)(eT:R.getD τ 0=T)(h:Nat):(R.take h).count T=if τ<h then 1 else 0:=by
 have eg:R[τ]=T:=by rw[<-eT];simp[OJ,hτ]
 have mem:T∈R.take h↔τ<h:=by
  constructor
  ·intro w;obtain⟨i,hi⟩:=OD.mp w;rw[Ti] at hi;split at hi
   ·rename_i c
    have e2:R[τ]? =some T:=by rw[NL hτ,eg]
    have:=(TY (NY.mp hi).1 nd).mp (hi.trans e2.symm);omega
   ·cases hi
  ·intro w;refine OD.mpr ⟨τ,?_⟩;rw[Ti,if_pos w,NL hτ,eg]
 have nd':(R.take h).Nodup:=nd.sublist (R6 _ _)
 by_cases c:τ<h
 ·rw[if_pos c];have h1:=PV.mpr (mem.mpr c);have h2:=Vi.mp nd' T;omega
 ·rw[if_neg c];exact Tu.mpr λw=>c (mem.mp w)
theorem Ch {n a b k:Nat}(ha:a<n)(hk:k<(((b:Int) -a) % n).toNat):0<k↔(a+k) % n≠a:=by
 have m:=pE ((b:Int) -a) (show 0<n by omega);have hkn:k<n:=by omega
 by_cases hk0:k=0
 ·subst hk0;rw[S7,Qg ha];simp
 ·refine⟨λ_=>?_,λ_=>by omega⟩
  by_cases hl:a+k<n
  ·rw[Qg hl];omega
  ·rw[Nat.mod_eq_sub_mod (by omega),Qg (by omega)];omega
theorem wP {n:Nat}{o:List Nat}(O:Ord n o){a b:Nat}(ha:a<n)(hb:b<n)(ne:a≠b):bJ o a b=true↔ ∀k,k<(((b:Int) -a) % n).toNat-> ¬(0<k/\bC n (o.getD a 0) (o.getD b 0) (o.getD ((a+k) % n) 0)=true):=by
 have h:0<n:=by omega
 rw[iC O ha hb ne];constructor
 ·intro H k hk ⟨h1,h2⟩;have hin:(a+k) % n∈cH n a b:=by unfold cH;exact N5.mpr ⟨k,by simpa using hk,rfl⟩
  obtain⟨hc,hi⟩:=(kx h ha b _).mp hin;have hne:=(Ch ha hk).mp h1;exact H _ hc ⟨hi,hne,h2,λz=>hne (O.inj hc ha z)⟩
 ·intro H c hc ⟨h1,h2,h3,_⟩;have:c∈cH n a b:=(kx h ha b c).mpr ⟨hc,h1⟩;unfold cH at this;obtain⟨k,hk,rfl⟩:=N5.mp this;have hk:k<(((b:Int) -a) % n).toNat:=by simpa using hk
  exact H k hk ⟨(Ch ha hk).mpr h2,h3⟩
def yj(n:Nat)(o:List Nat)(a b:Nat)(side:Nat->Nat->jP)(k:Nat):Bool:= !(decide (0<k)&&bC n (o.getD a 0) (o.getD b 0) (o.getD ((a+k) % n) 0))&&(ND (((o.getD b 0:Int) -o.getD a 0) % n).toNat).all λh=> !rd (side ((a+k) % n) h) ((a+k) % n) ((o.getD a 0+h) % n)
def mE(n:Nat)(o:List Nat)(a b:Nat)(side:Nat->Nat->jP):Bool:=(ND (((b:Int) -a) % n).toNat).all (yj n o a b side)
theorem xA {n:Nat}{S:jP}{o:List Nat}(O:Ord n o){a b col:Nat}(ha:a<n)(hb:b<n)(ne:a≠b){sides:List jP}{turns:List Nat}{side:Nat->Nat->jP}(hcol:col∈cH n a b)(hS: ∀c h,c≠col->side c h=S)
 (hB: ∀h,h<(((o.getD b 0:Int) -o.getD a 0) % n).toNat->side col h=sides.getD (((cH n (o.getD a 0) (o.getD b 0)).take h).filter λy=>decide (y∈turns)).length ([],[])):
 (bJ o a b&&((!((cH n a b).filter λc=>decide (c≠col)).any λc=>(cH n (o.getD a 0) (o.getD b 0)).any λy=>rd S c y)&&jH sides turns col 0 (cH n (o.getD a 0) (o.getD b 0))))=mE n o a b side:=by
 have h:0<n:=by omega
 rw[Ov,NQ,NQ,wP O ha hb ne,sS];unfold mE yj;simp only[NW,NF,NQ,O0,QU,OU,decide_eq_true_eq,qC,Qt,Sw,decide_eq_false_iff_not];have mC: ∀c,c∈cH n a b↔ ∃k,k<(((b:Int) -a) % n).toNat/\(a+k) % n=c:=λc=>by
  unfold cH;rw[N5];exact⟨λ⟨k,hk,e⟩=>⟨k,by simpa using hk,e⟩,λ⟨k,hk,e⟩=>⟨k,by simpa using hk,e⟩⟩
 have mR: ∀y,y∈cH n (o.getD a 0) (o.getD b 0)↔ ∃k,k<(((o.getD b 0:Int) -o.getD a 0) % n).toNat/\(o.getD a 0+k) % n=y:=λc=>by
  unfold cH;rw[N5];exact⟨λ⟨k,hk,e⟩=>⟨k,by simpa using hk,e⟩,λ⟨k,hk,e⟩=>⟨k,by simpa using hk,e⟩⟩
 constructor
 ·rintro⟨h1,h2,h3⟩ k hk;refine⟨?_,λi hi=>?_⟩
  ·by_cases c:0<k
   ·right;cases e:bC n (o.getD a 0) (o.getD b 0) (o.getD ((a+k) % n) 0) with
    |false=>rfl
    |true=>exact absurd ⟨c,e⟩ (h1 k hk)
   ·exact .inl c
  ·by_cases c:(a+k) % n=col
   ·rw[c,hB i hi,<-tO hi];exact h3 i hi
   ·rw[hS _ _ c];have:=h2 ((a+k) % n) ⟨(mC _).mpr ⟨k,hk,rfl⟩,c⟩;simp only[WH] at this;exact(QU.mp this _ ((mR _).mpr ⟨i,hi,rfl⟩)|>λw=>by simpa using w)
 ·intro H;refine⟨λk hk ⟨w1,w2⟩=>?_,λc ⟨hc,hne⟩=>?_,λi hi=>?_⟩
  ·rcases(H k hk).1 with z|z
   ·exact z w1
   ·rw[z] at w2;cases w2
  ·obtain⟨k,hk,rfl⟩:=(mC c).mp hc;simp only[WH];refine QU.mpr λy hy=>?_
   obtain⟨i,hi,rfl⟩:=(mR y).mp hy;have:=(H k hk).2 i hi;rw[hS _ _ hne] at this;rw[this];decide
  ·obtain⟨k,hk,e⟩:=(mC col).mp hcol;have:=(H k hk).2 i hi;rw[e,hB i hi,<-tO hi] at this;exact this
theorem tM(R:List Nat)(T:Nat):(R.filter λy=>decide (y∈[T]))=NR (R.count T) T:=by
 rw[<-List.filter_beq];congr 1;funext y;rw[Ov];simp
theorem GI {n:Nat}(h:0<n)(s e:Nat):(cH n s e).Nodup:=by
 unfold cH;have m:=pE ((e:Int) -s) h;refine jds (R:=λi j:Nat=>i<n/\j<n/\i≠j) _ (λi j hij e1=>?_) ?_
 ·obtain⟨h1,h2,h3⟩:=hij;have d1:=W5 (s+i) n;have d2:=W5 (s+j) n;rw[e1] at d1;rcases QO ((s+i) / n) ((s+j) / n) with q|q|q
  ·have:n*((s+i) / n)+n<=n*((s+j) / n):=by rw[<-Wp];exact Vy _ q
   omega
  ·rw[q] at d1;omega
  ·have:n*((s+j) / n)+n<=n*((s+i) / n):=by rw[<-Wp];exact Vy _ q
   omega
 ·refine O4 (λ{i j} hi hj (hij:i≠j)=>⟨?_,?_,hij⟩) Oh
  ·have:=NF.mp hi;omega
  ·have:=NF.mp hj;omega
theorem IC {n s e T:Nat}(hs:s<n)(hT:T<n)(ht:(((T:Int) -s) % n).toNat<(((e:Int) -s) % n).toNat):(cH n s e).getD (((T:Int) -s) % n).toNat 0=T:=by
 rw[tO ht];exact xM hs hT
theorem Cf {n s e T:Nat}(hs:s<n)(hT:T<n):T∈cH n s e↔(((T:Int) -s) % n).toNat<(((e:Int) -s) % n).toNat:=by
 rw[kx (by omega) hs,mz (by omega)];exact⟨λq=>q.2,λq=>⟨hT,q⟩⟩
theorem Dy {n:Nat}{S:jP}{o:List Nat}(O:Ord n o){a b col T:Nat}(ha:a<n)(hb:b<n)(ne:a≠b)(hT:T<n){sides:List jP}{side:Nat->Nat->jP}(hcol:col∈cH n a b)(hS: ∀c h,c≠col->side c h=S)
 (hB: ∀h,side col h=sides.getD (if(((T:Int) -o.getD a 0) % n).toNat<h then 1 else 0) ([],[])):
 dI n S o a b col sides [T]=(decide ((((T:Int) -o.getD a 0) % n).toNat<(((o.getD b 0:Int) -o.getD a 0) % n).toNat)&&mE n o a b side):=by
 have h:0<n:=by omega
 have nd:=GI h (o.getD a 0) (o.getD b 0);have la:=O.get ha;unfold dI
 by_cases c1:(((T:Int) -o.getD a 0) % n).toNat<(((o.getD b 0:Int) -o.getD a 0) % n).toNat
 ·have m:=(Cf (e:=o.getD b 0) la hT).mpr c1;have g:=IC (e:=o.getD b 0) la hT c1;have c:=Vi.mp nd T;have c':=PV.mpr m;rw[decide_eq_true c1,tM,show(cH n (o.getD a 0) (o.getD b 0)).count T=1 by omega,decide_eq_true (by rfl),OB,OB];refine xA O ha hb ne hcol hS λh hh=>?_
  rw[hB,tM,Ss,DC nd (by rw[qC];exact c1) g]
 ·have m: ¬T∈cH n (o.getD a 0) (o.getD b 0):=λw=>c1 ((Cf la hT).mp w)
  rw[decide_eq_false c1,tM,Tu.mpr m,decide_eq_false (by simp),PP,PP]
theorem Cn: ∀n,n<=5-> ∀s,s<n-> ∀h,h<n->((((s+h) % n:Nat):Int) -s) % n=h:=by decide+kernel
theorem y6 {n s e h:Nat}(hn:n<=5)(hs:s<n)(hh:h<n):bC n s e ((s+h) % n)=true↔h<(((e:Int) -s) % n).toNat:=by
 rw[mz (by omega),Cn n hn s hs h hh];simp
theorem BP {n:Nat}(hn:n<=5){o:List Nat}(O:Ord n o){a b:Nat}(ha:a<n)(hb:b<n)(ne:a≠b){side:Nat->Nat->jP}:mE n o a b side=true↔bJ o a b=true/\ ∀k,k<n->bC n a b k=true-> ∀y,y<n->bC n (o.getD a 0) (o.getD b 0) y=true->rd (side k (((y:Int) -o.getD a 0) % n).toNat) k y=false:=by
 have h:0<n:=by omega
 have la:=O.get ha;rw[wP O ha hb ne];unfold mE yj;simp only[NW,NF,NQ,O0,Sw,decide_eq_false_iff_not];have m1:=pE ((b:Int) -a) h;have m2:=pE ((o.getD b 0:Int) -o.getD a 0) h;constructor
 ·intro H;refine⟨λk hk ⟨w1,w2⟩=>?_,λk hk hi y hy hj=>?_⟩
  ·rcases(H k hk).1 with z|z
   ·exact z w1
   ·rw[z] at w2;cases w2
  ·have i1:=(mz h).mp hi;have i2:=(mz h).mp hj;have:=(H _ i1).2 _ i2;rwa [xM ha hk,xM la hy] at this
 ·rintro⟨H1,H2⟩ k hk;refine⟨?_,λj hj=>?_⟩
  ·by_cases q:0<k
   ·right;cases e:bC n (o.getD a 0) (o.getD b 0) (o.getD ((a+k) % n) 0) with
    |false=>rfl
    |true=>exact absurd ⟨q,e⟩ (H1 k hk)
   ·exact .inl q
  ·have:=H2 ((a+k) % n) (P4 _ h) ((y6 hn ha (by omega)).mpr hk) ((o.getD a 0+j) % n) (P4 _ h) ((y6 hn la (by omega)).mpr hj);rwa [Cn n hn _ la j (by omega),PL] at this
def Nm(n s e T y:Nat):Bool:= !bC n s e T||(((bC n s e y&&decide ((((y:Int) -s) % n).toNat<=(((T:Int) -s) % n).toNat))==bC n s (jO n T) y)&&((bC n s e y&&decide ((((T:Int) -s) % n).toNat<(((y:Int) -s) % n).toNat))==bC n (jO n T) e y))
theorem Lu:((ND 6).all λn=>(ND n).all λs=>(ND n).all λe=>(ND n).all λT=>(ND n).all λy=>Nm n s e T y)=true:=by decide+kernel
theorem zh {n s e T y:Nat}(hn:n<=5)(hs:s<n)(he:e<n)(hT:T<n)(hy:y<n)(h:bC n s e T=true):(bC n s (jO n T) y=(bC n s e y&&decide ((((y:Int) -s) % n).toNat<=(((T:Int) -s) % n).toNat)))/\(bC n (jO n T) e y=(bC n s e y&&decide ((((T:Int) -s) % n).toNat<(((y:Int) -s) % n).toNat))):=by
 have k:=Lu;have k:=NW.mp k n (NF.mpr (by omega));have k:=NW.mp k s (NF.mpr hs);have k:=NW.mp k e (NF.mpr he);have k:=NW.mp k T (NF.mpr hT);have k:=NW.mp k y (NF.mpr hy);unfold Nm at k;rw[h,Qh,RL,NQ,beq_iff_eq,beq_iff_eq] at k;exact⟨k.1.symm,k.2.symm⟩
theorem mkB_f {S:jP}{k y:Nat}:rd S k y=false↔y≠S.1.getD k 0/\y≠S.2.getD k 0:=by
 unfold rd;rw[decide_eq_false_iff_not,not_or]
theorem pI {n:Nat}{S:jP}{col:Nat}(h1:S.1.getD col 0<n)(h2:S.2.getD col 0<n)(f:Nat->Bool):(∀y,y<n->f y=true->rd S col y=false)↔(f (S.1.getD col 0)=false/\f (S.2.getD col 0)=false):=by
 constructor
 ·intro H;constructor
  ·cases e:f (S.1.getD col 0) with
   |false=>rfl
   |true=>exact absurd rfl (mkB_f.mp (H _ h1 e)).1
  ·cases e:f (S.2.getD col 0) with
   |false=>rfl
   |true=>exact absurd rfl (mkB_f.mp (H _ h2 e)).2
 ·rintro⟨e1,e2⟩ y hy hf;exact mkB_f.mpr ⟨λe=>(by rw[e,e1] at hf;cases hf),λe=>(by rw[e,e2] at hf;cases hf)⟩
theorem B9 {n:Nat}{S:jP}{o:List Nat}{a b k:Nat}(h1:S.1.getD k 0<n)(h2:S.2.getD k 0<n):(bC n a b k=true-> ∀y,y<n->bC n (o.getD a 0) (o.getD b 0) y=true->rd S k y=false)↔(rh n o (a,b) k (S.1.getD k 0)=false/\rh n o (a,b) k (S.2.getD k 0)=false):=by
 unfold rh;cases e:bC n a b k with
 |false=>simp
 |true=>
  rw[OB,OB];exact⟨λH=>(pI h1 h2 λy=>bC n (o.getD a 0) (o.getD b 0) y).mp (H rfl),λH _=>(pI h1 h2 λy=>bC n (o.getD a 0) (o.getD b 0) y).mpr H⟩
def J1(n:Nat)(S:jP):Prop:= ∀k,k<n->S.1.getD k 0<n/\S.2.getD k 0<n
theorem wK {n:Nat}(hn:n<=5){S S0 S1:jP}(hS:J1 n S)(h0:J1 n S0)(h1:J1 n S1){o:List Nat}(O:Ord n o){a b col T:Nat}(ha:a<n)(hb:b<n)(ne:a≠b)(hT:T<n)(hc:col<n)(hi:bC n a b col=true):
 dI n S o a b col [S0,S1] [T]=true↔bJ o a b=true/\(bC n (o.getD a 0) (o.getD b 0) T=true/\(Hu n (o.getD a 0) (jO n T) (S0.1.getD col 0) (S0.2.getD col 0)/\Hu n (jO n T) (o.getD b 0) (S1.1.getD col 0) (S1.2.getD col 0)))/\ ∀k,k<n->k≠col->rh n o (a,b) k (S.1.getD k 0)=false/\rh n o (a,b) k (S.2.getD k 0)=false:=by
 have h:0<n:=by omega
 have la:=O.get ha;have lb:=O.get hb
 let side:Nat->Nat->jP:=λk j=>if k=col then [S0,S1].getD (if(((T:Int) -o.getD a 0) % n).toNat<j then 1 else 0) ([],[]) else S
 rw[Dy O ha hb ne hT (side:=side) ((kx h ha b col).mpr ⟨hc,hi⟩) (λk j w=>if_neg w) (λj=>if_pos rfl),NQ,decide_eq_true_eq,<-mz h,BP hn O ha hb ne];have cd:bC n (o.getD a 0) (o.getD b 0) T=true->((∀y,y<n->bC n (o.getD a 0) (o.getD b 0) y=true->rd (side col (((y:Int) -o.getD a 0) % n).toNat) col y=false)↔(Hu n (o.getD a 0) (jO n T) (S0.1.getD col 0) (S0.2.getD col 0)/\Hu n (jO n T) (o.getD b 0) (S1.1.getD col 0) (S1.2.getD col 0))):=λiT=>by
  have c0:=pI (h0 col hc).1 (h0 col hc).2 (λy=>bC n (o.getD a 0) (jO n T) y);have c1:=pI (h1 col hc).1 (h1 col hc).2 (λy=>bC n (jO n T) (o.getD b 0) y);unfold Hu;rw[<-c0,<-c1];constructor
  ·intro H;refine⟨λy hy w=>?_,λy hy w=>?_⟩
   ·rw[(zh hn la lb hT hy iT).1,NQ,decide_eq_true_eq] at w;have:=H y hy w.1;rw[show side col (((y:Int) -o.getD a 0) % n).toNat=S0 by show(if col=col then _ else _)=_;rw[if_pos rfl,if_neg (by omega)];rfl] at this;exact this
   ·rw[(zh hn la lb hT hy iT).2,NQ,decide_eq_true_eq] at w;have:=H y hy w.1;rw[show side col (((y:Int) -o.getD a 0) % n).toNat=S1 by show(if col=col then _ else _)=_;rw[if_pos rfl,if_pos w.2];rfl] at this;exact this
  ·rintro⟨H0,H1⟩ y hy w
   by_cases q:(((T:Int) -o.getD a 0) % n).toNat<(((y:Int) -o.getD a 0) % n).toNat
   ·rw[show side col (((y:Int) -o.getD a 0) % n).toNat=S1 by show(if col=col then _ else _)=_;rw[if_pos rfl,if_pos q];rfl];exact H1 y hy (by rw[(zh hn la lb hT hy iT).2,w,decide_eq_true q];rfl)
   ·rw[show side col (((y:Int) -o.getD a 0) % n).toNat=S0 by show(if col=col then _ else _)=_;rw[if_pos rfl,if_neg q];rfl];exact H0 y hy (by rw[(zh hn la lb hT hy iT).1,w,decide_eq_true (show _<=_ by omega)];rfl)
 constructor
 ·rintro⟨iT,bare,H⟩;refine⟨bare,⟨iT,(cd iT).mp (H col hc hi)⟩,λk hk w=>(B9 (hS k hk).1 (hS k hk).2).mp λi y hy j=>?_⟩;have:=H k hk i y hy j;rwa [show side k (((y:Int) -o.getD a 0) % n).toNat=S from if_neg w] at this
 ·rintro⟨bare,⟨iT,c⟩,H⟩;refine⟨iT,bare,λk hk i y hy j=>?_⟩
  by_cases w:k=col
  ·subst w;exact(cd iT).mpr c y hy j
  ·rw[show side k (((y:Int) -o.getD a 0) % n).toNat=S from if_neg w];exact(B9 (hS k hk).1 (hS k hk).2).mpr (H k hk w) i y hy j
def Mq(n c:Nat)(S O:jP)(T:Nat)(o:List Nat)(a b:Nat):Bool:=(decide (a=c+1)&&dI n S o (c+1) b (c+1) [S,O] [T])||(decide (b=c+1)&&dI n S o a (c+1) c [O,S] [T])
theorem FN {n c:Nat}(hn:n<=5)(hc:c+1<n){S O:jP}(hS:J1 n S)(hO:J1 n O){r x:List Nat}(ag: ∀k,k<n->k≠c->k≠c+1->S.1.getD k 0=r.getD k 0/\S.2.getD k 0=x.getD k 0)(s1:O.1.getD c 0=S.1.getD (c+1) 0)(s2:O.2.getD c 0=S.2.getD (c+1) 0)(s3:O.1.getD (c+1) 0=S.1.getD c 0)(s4:O.2.getD (c+1) 0=S.2.getD c 0){T:Nat}(hT:T<n){o:List Nat}(Oo:Ord n o){a b:Nat}(ha:a<n)(hb:b<n)(ne:a≠b):
 Mq n c S O T o a b=true↔G3 n c r x T (S.1.getD (c+1) 0) (S.2.getD (c+1) 0) (S.1.getD c 0) (S.2.getD c 0) o a b:=by
 have hc':c<n:=by omega
 have ot: ∀ {col oc:Nat},bC n a b oc=false->(col=c/\oc=c+1\/col=c+1/\oc=c)->((∀k,k<n->k≠col->rh n o (a,b) k (S.1.getD k 0)=false/\rh n o (a,b) k (S.2.getD k 0)=false)↔MP n c r x o a b):=λ{col oc} ho hco=>by
  constructor
  ·intro H k hk k1 k2;rw[<-(ag k hk k1 k2).1,<-(ag k hk k1 k2).2];exact H k hk (by rcases hco with⟨e,_⟩|⟨e,_⟩<;>rw[e]<;>assumption)
  ·intro H k hk w
   by_cases e:k=oc
   ·subst e;unfold rh;rw[ho];exact⟨rfl,rfl⟩
   ·have k1:k≠c:=by rcases hco with⟨e1,e2⟩|⟨e1,e2⟩<;>omega
    have k2:k≠c+1:=by rcases hco with⟨e1,e2⟩|⟨e1,e2⟩<;>omega
    have:=H k hk k1 k2;rwa [<-(ag k hk k1 k2).1,<-(ag k hk k1 k2).2] at this
 unfold Mq G3;rw[PD,NQ,NQ,decide_eq_true_eq,decide_eq_true_eq]
 by_cases e1:a=c+1
 ·subst e1;have nb:b≠c+1:=λe=>ne e.symm
  have f:=pj n (by omega) c hc' hc b hb nb;rw[wK hn hS hS hO Oo ha hb ne hT hc f.2.2.2,ot f.1 (.inr ⟨rfl,rfl⟩),s3,s4];constructor
  ·rintro(⟨_,w1,w2,w3⟩|⟨w,_⟩)
   ·exact⟨w1,⟨.inl rfl,w2⟩,w3⟩
   ·exact absurd w nb
  ·rintro⟨w1,⟨_,w2⟩,w3⟩;exact .inl ⟨rfl,w1,w2,w3⟩
 ·by_cases e2:b=c+1
  ·subst e2;have f:=pj n (by omega) c hc' hc a ha e1;rw[wK hn hS hO hS Oo ha hb ne hT hc' f.2.1,ot f.2.2.1 (.inl ⟨rfl,rfl⟩),s1,s2];constructor
   ·rintro(⟨w,_⟩|⟨_,w1,w2,w3⟩)
    ·exact absurd w e1
    ·exact⟨w1,⟨.inr rfl,w2⟩,w3⟩
   ·rintro⟨w1,⟨_,w2⟩,w3⟩;exact .inr ⟨rfl,w1,w2,w3⟩
  ·constructor
   ·rintro(⟨w,_⟩|⟨w,_⟩)
    ·exact absurd w e1
    ·exact absurd w e2
   ·rintro⟨_,⟨w,_⟩,_⟩;exact absurd w (by omega)
theorem rS {n i:Nat}(hi:i<n)(P Q:Nat->Bool)(o:List Nat):(jU n P Q o i).Perm ((sp n λa b=>(decide (a=i)&&P b)||(decide (b=i)&&Q a)).map λp=>br o p.1 p.2):=by
 have e1:(jU n P Q o i).Perm (((ND n).flatMap λj=>if(decide (j≠i)&&P j)=true then [(i,j)] else []).map (λp=>br o p.1 p.2)++((ND n).flatMap λj=>if(decide (j≠i)&&Q j)=true then [(j,i)] else []).map (λp=>br o p.1 p.2)):=by
  unfold jU qx;generalize ND n=l
  induction l with
  |nil=>exact .nil
  |cons j l ih=>
   rw[Oj,Oj,Oj,O3,O3];have z1:(if(decide (j≠i)&&P j)=true then [br o i j] else [])=(if(decide (j≠i)&&P j)=true then [(i,j)] else []).map (λp:Nat×Nat=>br o p.1 p.2):=by split<;>rfl
   have z2:(if(decide (j≠i)&&Q j)=true then [br o j i] else [])=(if(decide (j≠i)&&Q j)=true then [(j,i)] else []).map (λp:Nat×Nat=>br o p.1 p.2):=by split<;>rfl
   rw[z1,z2];generalize (if(decide (j≠i)&&P j)=true then [(i,j)] else []).map (λp:Nat×Nat=>br o p.1 p.2)=A;generalize (if(decide (j≠i)&&Q j)=true then [(j,i)] else []).map (λp:Nat×Nat=>br o p.1 p.2)=B;refine(Rr (A++B) ih).trans ?_
   rw[Pj,Pj];refine Rr A ?_
   rw[<-Pj,<-Pj];exact UH _ UZ
 rw[<-O3] at e1;refine e1.trans (Ym _ ((Ou ?_ (DR n _)).mpr λp=>?_))
 ·rw[Qn];have fl: ∀(f:Nat->Bool) (g:Nat->Nat×Nat),(∀a b,g a=g b->a=b)->((ND n).flatMap λj=>if f j=true then [g j] else []).Nodup:=λf g hg=>by
   rw[QI,Sv];refine⟨λj _=>by split<;>simp,Oh.imp λ{a b} h x hx y hy e=>h ?_⟩;split at hx
   ·split at hy
    ·rw[Om] at hx hy;exact hg _ _ (hx.symm.trans (e.trans hy))
    ·cases hy
   ·cases hx
  refine⟨fl _ _ λa b e=>(WR e).2,fl _ _ λa b e=>(WR e).1,λx hx y hy e=>?_⟩;obtain⟨j,_,hj⟩:=Pv.mp hx;obtain⟨k,_,hk⟩:=Pv.mp hy;split at hj
  ·rename_i c1
   split at hk
   ·rw[Om] at hj hk;rw[hj,hk] at e;rw[NQ,decide_eq_true_eq] at c1;exact c1.1 (WR e).2
   ·cases hk
  ·cases hj
 ·rw[Pt,Pv,Pv,sp_mem];constructor
  ·rintro(⟨j,hj,w⟩|⟨j,hj,w⟩)
   ·split at w
    ·rename_i c1
     rw[NQ,decide_eq_true_eq] at c1;rw[Om] at w;subst w;exact⟨hi,NF.mp hj,λe=>c1.1 e.symm,by show((decide (i=i)&&P j)||_)=true;rw[c1.2];simp⟩
    ·cases w
   ·split at w
    ·rename_i c1
     rw[NQ,decide_eq_true_eq] at c1;rw[Om] at w;subst w;exact⟨NF.mp hj,hi,c1.1,by show(_||(decide (i=i)&&Q j))=true;rw[c1.2];simp⟩
    ·cases w
  ·rintro⟨h1,h2,h3,h4⟩;rw[PD,NQ,NQ,decide_eq_true_eq,decide_eq_true_eq] at h4;obtain⟨a,b⟩:=p;rcases h4 with⟨e,q⟩|⟨e,q⟩
   ·left;have e:a=i:=e;subst e;exact⟨b,NF.mpr h2,by rw[if_pos (by rw[decide_eq_true (show b≠a from λw=>h3 w.symm)];exact q)];exact Om.mpr rfl⟩
   ·right;have e:b=i:=e;subst e;exact⟨a,NF.mpr h1,by rw[if_pos (by rw[decide_eq_true h3];exact q)];exact Om.mpr rfl⟩
theorem IQ(p a b:Nat):nJ p (min a b) (max a b)=nJ p a b:=by
 rcases Nat.le_total a b with h|h
 ·rw[S3 h,WI h]
 ·rw[SI h,W6 h];exact pZ p b a
theorem LB(a b:Nat):cO [.tup [nI a,nI b]]=some (.lst [nI (min a b),nI (max a b)]):=by
 show(hW ([a,b].map nI)).map D.lst=_;unfold hW;rw[if_pos (by simp)];have e:[a,b].map nI=([a,b].map λ(v:Nat)=>(v:Int)).map D.int:=by rw[N6];rfl
 rw[e,mU];have:[min a b,max a b].map (λ(v:Nat)=>(v:Int))=bj Bj ([a,b].map λ(v:Nat)=>(v:Int)):=by
  refine kP G0 (Ym _ ?_) ?_
  ·by_cases h:a<=b
   ·rw[S3 h,WI h]
   ·rw[SI (by omega),W6 (by omega)];exact Vc _ _ _
  ·simp only[NS,Qu,QA,Om,forall_eq,Qo,and_true,P2,false_implies,implies_true];simp only[Bj,decide_eq_false_iff_not];omega
 show some (D.lst ((bj Bj ([a,b].map λ(v:Nat)=>(v:Int))).map D.int))=_;rw[<-this,N6];rfl
theorem He(p a b:Nat):b7 [nI p,nI a,nI b]=some (.bl (nJ p a b)):=by
 apply aV (kd:=.s) (n:=3) (t:=gP);unfold gP;have mn:ak lg (aa (ai 1) (aa (ai 2) (aj))) (ka 3 [nI p,nI a,nI b])=some (nI (min a b)):=by
  refine(bD (ds:=[nI a,nI b]) rfl).trans ?_
  show some (D.int _)=some (D.int _);congr 2;split<;>omega
 have mx:ak vf (aa (ai 1) (aa (ai 2) (aj))) (ka 3 [nI p,nI a,nI b])=some (nI (max a b)):=by
  refine(bD (ds:=[nI a,nI b]) rfl).trans ?_
  show some (D.int _)=some (D.int _);congr 2;split<;>omega
 refine aT ((yE (F:=Cg) (G:=Cg) (g:=ai 0) (y:=nI p) mn rfl (pC _ _) mx (pC _ _)).trans ?_);have e:(decide (((min a b:Nat):Int)<(p:Int))&&decide ((p:Int)<((max a b:Nat):Int)))=nJ p a b:=by
  unfold nJ;rw[Ov];simp only[NQ,decide_eq_true_eq];omega
 rw[e]
section
variable {n:Nat}{r x:List Nat}{c:Nat}(hr:r.length=n)(hx:x.length=n)(hc:c+1<n)
include hr hx hc
theorem Fq(h:NI n (r.getD c 0) (x.getD c 0) (r.getD (c+1) 0) (x.getD (c+1) 0)):iJ [c6 r x,nI c]=some (nI (if nJ (r.getD (c+1) 0) (r.getD c 0) (x.getD c 0)=true then min (r.getD c 0) (x.getD c 0) else max (r.getD c 0) (x.getD c 0))):=by
 refine qN (kd:=.s) (n:=6) (t:=nO) ?_
 unfold nO
 let a:=r.getD c 0
 let b:=x.getD c 0
 let ρ:aF:=[.v (c6 r x),.v (nI c),.v (ay r),.v (ay x),.v (nI (min a b)),.v (nI (max a b))]
 have q1:cy (gT 2 (cQ (gN 2) (cQ (gN 3) (gU)))) (pu (ai 0)) (ka 6 [c6 r x,nI c])=.nx [.v (c6 r x),.v (nI c),.v (ay r),.v (ay x),.no,.no]:=dS (fU rfl) rfl;have ia: ∀s4 s5,aw bo (ai 2) (ai 1) [.v (c6 r x),.v (nI c),.v (ay r),.v (ay x),s4,s5]=some (nI a):=λ_ _=>(aB (x:=ay r) (y:=nI c) rfl rfl).trans (gb (by omega))
 have ib: ∀s4 s5,aw bo (ai 3) (ai 1) [.v (c6 r x),.v (nI c),.v (ay r),.v (ay x),s4,s5]=some (nI b):=λ_ _=>(aB (x:=ay x) (y:=nI c) rfl rfl).trans (gb (by omega))
 have q2:cy (gL 2 (cQ (gN 4) (cQ (gN 5) (gU)))) (pu (ak cO (aa (cz (aa (aw bo (ai 2) (ai 1)) (aa (aw bo (ai 3) (ai 1)) (aj)))) (aj)))) [.v (c6 r x),.v (nI c),.v (ay r),.v (ay x),.no,.no]=.nx ρ:=
  dS (fU ((bD (ds:=[.tup [nI a,nI b]]) (al (ck (al (ia _ _) (al (ib _ _) rfl)) (by simp)) rfl)).trans (LB a b))) rfl
 have ip:aw bo (ai 2) (aw bP (ai 1) (aD (.int 1))) ρ=some (nI (r.getD (c+1) 0)):=(aB (x:=ay r) rfl ((aB (x:=nI c) (y:=.int 1) rfl rfl).trans (Ce c))).trans (gb (by omega));have tt:fA (ak (nF 3 b7) (aa (aw bo (ai 2) (aw bP (ai 1) (aD (.int 1)))) (aa (ai 4) (aa (ai 5) (aj))))) ρ=some (nJ (r.getD (c+1) 0) a b):=by
  refine jd ((aN (ds:=[nI (r.getD (c+1) 0),nI (min a b),nI (max a b)]) (al ip rfl) rfl).trans ((He _ _ _).trans ?_));rw[IQ]
 refine⟨ρ,(aA q1).trans ((aA q2).trans (aT ?_))⟩;show Hn _ _ _ ρ=some (nI (if nJ (r.getD (c+1) 0) a b=true then min a b else max a b));cases e:nJ (r.getD (c+1) 0) a b with
 |true=>rw[e] at tt;exact(Le tt).trans rfl
 |false=>rw[e] at tt;exact(KY tt).trans rfl
end
theorem Lb {n:Nat}{l:List Nat}(hl:l.length=4)(nd:l.Nodup)(lt: ∀v∈l,v<n): ∃f0 f1 f2 f3:Nat,cO [.lst (l.map nI)]=some (.lst ([f0,f1,f2,f3].map nI))/\f0<f1/\f1<f2/\f2<f3/\f3<n:=by
 have hP:(bj Bj (l.map λ(v:Nat)=>(v:Int))).Perm (l.map λ(v:Nat)=>(v:Int)):=aS _;have pw:=kA G0 (l.map λ(v:Nat)=>(v:Int));have sf:cO [.lst (l.map nI)]=some (.lst ((bj Bj (l.map λ(v:Nat)=>(v:Int))).map D.int)):=by
  show(hW (l.map nI)).map D.lst=_;unfold hW;rw[if_pos (by rw[NK];omega)];have e:l.map nI=(l.map λ(v:Nat)=>(v:Int)).map D.int:=by rw[N6];rfl
  rw[e,mU];rfl
 generalize bj Bj (l.map λ(v:Nat)=>(v:Int))=L at hP pw sf;have eL:L=(L.map Uo).map λ(v:Nat)=>(v:Int):=by
  rw[N6]
  conv=>lhs;rw[<-T0 L]
  refine Oq λz hz=>?_
  obtain⟨v,_,rfl⟩:=N5.mp (hP.mem_iff.mp hz);simp
 have P':(L.map Uo).Perm l:=by
  have:=hP.map Uo;rw[N6] at this;have e:l.map (Uo∘λ(v:Nat)=>(v:Int))=l:=by
   conv=>rhs;rw[<-T0 l]
   exact Oq λv _=>by simp
  rw[e] at this;exact this
 generalize L.map Uo=M at eL P';subst eL;have len:M.length=4:=P'.length_eq.trans hl;have nd':M.Nodup:=P'.nodup_iff.mpr nd;have lt': ∀v∈M,v<n:=λv hv=>lt v (P'.mem_iff.mp hv)
 rw[OY] at pw
 match M,len with
 | [f0,f1,f2,f3],_=>
   refine⟨f0,f1,f2,f3,by rw[sf,N6];rfl,?_,?_,?_,lt' f3 (by simp)⟩
   all_goals
    simp only[QA,Oc,P2,or_false,forall_eq_or_imp,forall_eq,Qo,and_true,Bj,decide_eq_false_iff_not,PQ,not_or] at pw nd';omega
theorem Cr(l:List Nat)(a:Nat):lQ (l.map nI) (some (a:Int)) none=(l.drop a).map nI:=by
 unfold lQ;rw[HT.sIx_none,HT.sIx_nat,NK]
 by_cases h:a<=l.length
 ·rw[S3 h,P5 (by simp),VC]
 ·rw[SI (by omega),Uq,List.take_zero,Qw (by omega)];rfl
theorem EC(l:List Nat)(a:Nat):lQ (l.map nI) none (some (a:Int))=(l.take a).map nI:=by
 unfold lQ;rw[HT.sIx_none,HT.sIx_nat,NK,Sj,Nat.sub_zero,VB]
 by_cases h:a<=l.length
 ·rw[S3 h]
 ·rw[SI (by omega),P5 (by simp),P5 (by simp;omega)]
theorem DU(l m:List Nat)(h:l.length+m.length<=900):gE (.lst (l.map nI)) (.lst (m.map nI))=some (.lst ((l++m).map nI)):=by
 have:gE (.lst (l.map nI)) (.lst (m.map nI))=some (.lst (l.map nI++m.map nI)):=if_pos (by rw[NK,NK];exact OE h (by decide));rw[this,O3]
theorem mt {f:FE}{ρ:aF}{l:List Nat}{g:FE}{a:Nat}(h1:f ρ=some (.lst (l.map nI)))(h2:g ρ=some (nI a)):ft f (jQ g) nH ρ=some (.lst ((l.drop a).map nI)):=by
 unfold ft jQ nH;rw[h1,NN];dsimp only;rw[h2];show some (D.lst (lQ (l.map nI) (some (a:Int)) none))=_;rw[Cr]
theorem uc {f:FE}{ρ:aF}{l:List Nat}{g:FE}{a:Nat}(h1:f ρ=some (.lst (l.map nI)))(h2:g ρ=some (nI a)):ft f nH (jQ g) ρ=some (.lst ((l.take a).map nI)):=by
 unfold ft jQ nH;rw[h1,NN];dsimp only;rw[h2];show some (D.lst (lQ (l.map nI) none (some (a:Int))))=_;rw[EC]
abbrev eF(bg:List D)(n:Nat)(t:List Sl):aF:=.arg bg:: .v (nI n)::t
theorem Gt {N:Nat}{a b:Int}(B:Bag N a b)(hN:N<=1000)(n c:Nat): ∃(w0 w1 w2 w3:Int) (a' b':Int),(0<=w0/\w0<2)/\(0<=w1/\w1<2)/\(0<=w2/\w2<2)/\(0<=w3/\w3<2)/\Bag (N+4) a' b'/\
 eZ 1 (cN (eD (aa (aD (.int 4)) (aj)))) (gN 14) (bT) (aQ 0 1 bn (cN (aa (aD (.int 2)) (aj)))) (eF (aH a b) n [.v (nI c),.no,.no,.no,.no,.no,.no,.no,.no,.no,.no,.no])=some (.lst [.int w0,.int w1,.int w2,.int w3],eF (aH a' b') n [.v (nI c),.no,.no,.no,.no,.no,.no,.no,.no,.no,.no,.no]):=by
 have step: ∀ {N:Nat} {a b:Int} (B:Bag N a b) (hN:N<=2000) (k:Nat) (l:List D),∃(w a' b':Int),(0<=w/\w<2)/\Bag (N+1) a' b'/\
  dY (gN 14) (bT) (aQ 0 1 bn (cN (aa (aD (.int 2)) (aj)))) (nI k::l) (eF (aH a b) n [.v (nI c),.no,.no,.no,.no,.no,.no,.no,.no,.no,.no,.no,.no])=(dY (gN 14) (bT) (aQ 0 1 bn (cN (aa (aD (.int 2)) (aj)))) l (eF (aH a' b') n [.v (nI c),.no,.no,.no,.no,.no,.no,.no,.no,.no,.no,.no,.no])).map λz=>(D.int w::z.1,z.2):=by
  intro N a b B hN k l;obtain⟨d,a1,b1,e1,B1,d0,d1⟩:=pA (m:=2) B (by omega) (by decide) (by decide);refine⟨d,a1,b1,⟨d0,d1⟩,B1,?_⟩;have hf:aQ 0 1 bn (cN (aa (aD (.int 2)) (aj))) (eF (aH a b) n [.v (nI c),.no,.no,.no,.no,.no,.no,.no,.no,.no,.no,.no,.v (nI k)])=some (.int d,eF (aH a1 b1) n [.v (nI c),.no,.no,.no,.no,.no,.no,.no,.no,.no,.no,.no,.v (nI k)]):=
   dM (i:=0) (n:=1) (b0:=aH a b) (ds:=[.int 2]) rfl (cF rfl) rfl rfl e1
  conv=>lhs;unfold dY
  rw[show gN 14 (nI k) (eF (aH a b) n [.v (nI c),.no,.no,.no,.no,.no,.no,.no,.no,.no,.no,.no,.no])=some (eF (aH a b) n [.v (nI c),.no,.no,.no,.no,.no,.no,.no,.no,.no,.no,.no,.v (nI k)]) from rfl,NN,
   show bT (eF (aH a b) n [.v (nI c),.no,.no,.no,.no,.no,.no,.no,.no,.no,.no,.no,.v (nI k)])=some true from rfl,NN,if_pos rfl,hf,NN,if_pos (by rfl)]
  rw[show kT (eF (aH a b) n [.v (nI c),.no,.no,.no,.no,.no,.no,.no,.no,.no,.no,.no,.no]) (eF (aH a1 b1) n [.v (nI c),.no,.no,.no,.no,.no,.no,.no,.no,.no,.no,.no,.v (nI k)])=some (eF (aH a1 b1) n [.v (nI c),.no,.no,.no,.no,.no,.no,.no,.no,.no,.no,.no,.no]) from rfl,NN]
 obtain⟨w0,a0,b0,h0,B0,e0⟩:=step B (by omega) 0 [nI 1,nI 2,nI 3];obtain⟨w1,a1,b1,h1,B1,e1⟩:=step B0 (by omega) 1 [nI 2,nI 3];obtain⟨w2,a2,b2,h2,B2,e2⟩:=step B1 (by omega) 2 [nI 3];obtain⟨w3,a3,b3,h3,B3,e3⟩:=step B2 (by omega) 3 [];refine⟨w0,w1,w2,w3,a3,b3,h0,h1,h2,h3,by rw[show N+4=N+1+1+1+1 by omega];exact B3,?_⟩;unfold eZ;rw[cF (gM (n:=4) (al rfl rfl) (by omega)),NN];dsimp only;rw[if_pos (by simp;decide)];have:dY (gN 14) (bT) (aQ 0 1 bn (cN (aa (aD (.int 2)) (aj)))) ((ND 4).map nI) (eF (aH a b) n [.v (nI c),.no,.no,.no,.no,.no,.no,.no,.no,.no,.no,.no]++NR 1 .no)=some ([.int w0,.int w1,.int w2,.int w3],eF (aH a3 b3) n [.v (nI c),.no,.no,.no,.no,.no,.no,.no,.no,.no,.no,.no,.no]):=by
  show dY (gN 14) (bT) (aQ 0 1 bn (cN (aa (aD (.int 2)) (aj)))) [nI 0,nI 1,nI 2,nI 3] (eF (aH a b) n [.v (nI c),.no,.no,.no,.no,.no,.no,.no,.no,.no,.no,.no,.no])=_;rw[e0,e1,e2,e3];rfl
 rw[this,NN];rfl
theorem pX {ρ:aF}{p:FT}{q:Nat->Bool}(hg: ∀v,∃ρ1,gN 14 (nI v) ρ=some ρ1/\p ρ1=some (q v)/\ai 14 ρ1=some (nI v)/\kT ρ ρ1=some ρ): ∀l:List Nat,dY (gN 14) p (pu (ai 14)) (l.map nI) ρ=some ((l.filter q).map nI,ρ)
 | []=>rfl
 |v::l=>by
  obtain⟨ρ1,h1,h2,h3,h4⟩:=hg v;have ih:=pX hg l;rw[NS];unfold dY;rw[h1,NN,h2,NN];cases e:q v with
  |false=>rw[if_neg (by decide),ih,Q4 (by rw[e];decide)]
  |true=>
   rw[if_pos rfl,show pu (ai 14) ρ1=some (nI v,ρ1) from fU h3,NN,if_pos (by rfl),h4,NN,ih,Q5 e];rfl
theorem HY(L:List Nat)(c:Nat):kR true (nI c) (.tup (L.map nI))=some (.bl (!decide (c∈L))):=by
 unfold kR pY;dsimp only;rw[hZ,if_pos (by omega),Du];rfl
def IA(n:Nat):Bool:=(ND n).all λa=>(ND n).all λb=>a==b||((ND n).filter λv=> !decide (v∈[a,b])).length==n-2
theorem KQ:IA 4=true:=by decide+kernel
theorem KA:IA 5=true:=by decide+kernel
theorem FP {n:Nat}{o:List Nat}(O:Ord n o)(h4:4<=n)(h5:n<=5){a b:Nat}(ha:a<n)(hb:b<n)(ne:a≠b):(o.filter λv=> !decide (v∈[a,b])).length=n-2:=by
 rw[(O.perm.filter _).length_eq];have h:IA n=true:=by
  have e:n=4\/n=5:=by omega
  rcases e with rfl|rfl
  ·exact KQ
  ·exact KA
 have h:=NW.mp h a (NF.mpr ha);have h:=NW.mp h b (NF.mpr hb);simpa [ne] using h
theorem IF {f:FE}{ρ:aF}{ds:List D}(h:f ρ=some (.lst ds)):rH f (jQ (kS (aD (.int 1)))) ρ=some (.lst ds.reverse):=by
 unfold rH;rw[h,NN];dsimp only;rw[show jQ (kS (aD (.int 1))) ρ=some (some (-1)) from rfl,NN,if_pos rfl]
theorem xQ {f:FE}{ρ:aF}{w:Int}(h:f ρ=some (.int w)):bQ (aw pJ f (aD (.int 1))) ρ=some (decide (w=1)):=bY ((aB h (y:=.int 1) rfl).trans (by rw[oK (by rw[fM];omega),jb]))
section
variable {n:Nat}(h4:4<=n)(h5:n<=5)
include h4 h5
theorem zd {N:Nat}{a b:Int}(B:Bag N a b)(hN:N<=1000)(t2 t3 t4 t5 s8:Sl)(L0 L1 R0 R1:Nat)(i:Int)(u v:Nat)(hs: ∀s∈[t2,t3,t4,t5,s8],yZ s s=some s)
 (hu': ∀bg t,aw bo (ai 6) (aD (.int i)) (eF bg n (t2::t3::t4::t5:: .v (.lst ([L0,L1].map nI)):: .v (.lst ([R0,R1].map nI))::t))=some (nI u))
 (hv': ∀bg t,aw bo (ai 7) (aD (.int i)) (eF bg n (t2::t3::t4::t5:: .v (.lst ([L0,L1].map nI)):: .v (.lst ([R0,R1].map nI))::t))=some (nI v)) (hul:u<n) (hvl:v<n) (ne:u≠v):
 ∃(l:List Nat) (a' b':Int),(l.length=n-2/\l.Perm ((ND n).filter λz=> !decide (z∈[u,v])))/\Bag (N+n) a' b'/\eZ 1 (yI (aQ 0 1 bB (cN (aa (ai 1) (aj))))) (gN 14) (bQ (aw (kR true) (ai 14) (cz (aa (aw bo (ai 6) (aD (.int i))) (aa (aw bo (ai 7) (aD (.int i))) (aj)))))) (pu (ai 14))
  (eF (aH a b) n [t2,t3,t4,t5,.v (.lst ([L0,L1].map nI)),.v (.lst ([R0,R1].map nI)),s8,.no,.no,.no,.no,.no])=some (.lst (l.map nI),eF (aH a' b') n [t2,t3,t4,t5,.v (.lst ([L0,L1].map nI)),.v (.lst ([R0,R1].map nI)),s8,.no,.no,.no,.no,.no]):=by
 obtain⟨o,a',b',eo,O,B'⟩:=ql B (n:=n) (by omega) (by omega);refine⟨o.filter λz=> !decide (z∈[u,v]),a',b',⟨FP O h4 h5 hul hvl ne,O.perm.filter _⟩,B',?_⟩;have m2:=hs t2 (by simp);have m3:=hs t3 (by simp);have m4:=hs t4 (by simp);have m5:=hs t5 (by simp);have m8:=hs s8 (by simp);have gi:yI (aQ 0 1 bB (cN (aa (ai 1) (aj)))) (eF (aH a b) n [t2,t3,t4,t5,.v (.lst ([L0,L1].map nI)),.v (.lst ([R0,R1].map nI)),s8,.no,.no,.no,.no,.no])=some (o.map nI,eF (aH a' b') n [t2,t3,t4,t5,.v (.lst ([L0,L1].map nI)),.v (.lst ([R0,R1].map nI)),s8,.no,.no,.no,.no,.no]):=by
  unfold yI;rw[show aQ 0 1 bB (cN (aa (ai 1) (aj))) (eF (aH a b) n [t2,t3,t4,t5,.v (.lst ([L0,L1].map nI)),.v (.lst ([R0,R1].map nI)),s8,.no,.no,.no,.no,.no])=some (.lst (o.map nI),eF (aH a' b') n [t2,t3,t4,t5,.v (.lst ([L0,L1].map nI)),.v (.lst ([R0,R1].map nI)),s8,.no,.no,.no,.no,.no]) from
   dM (i:=0) (n:=1) (b0:=aH a b) (ds:=[nI n]) rfl (cF rfl) rfl rfl eo]
 have mx: ∀(sx:Sl),kT (eF (aH a' b') n [t2,t3,t4,t5,.v (.lst ([L0,L1].map nI)),.v (.lst ([R0,R1].map nI)),s8,.no,.no,.no,.no,.no,.no]) (eF (aH a' b') n [t2,t3,t4,t5,.v (.lst ([L0,L1].map nI)),.v (.lst ([R0,R1].map nI)),s8,.no,.no,.no,.no,.no,sx])=some (eF (aH a' b') n [t2,t3,t4,t5,.v (.lst ([L0,L1].map nI)),.v (.lst ([R0,R1].map nI)),s8,.no,.no,.no,.no,.no,.no]):=λsx=>by
  simp only[kT,m2,m3,m4,m5,m8,NN];rfl
 have mx0:kT (eF (aH a' b') n [t2,t3,t4,t5,.v (.lst ([L0,L1].map nI)),.v (.lst ([R0,R1].map nI)),s8,.no,.no,.no,.no,.no]) (eF (aH a' b') n [t2,t3,t4,t5,.v (.lst ([L0,L1].map nI)),.v (.lst ([R0,R1].map nI)),s8,.no,.no,.no,.no,.no,.no])=some (eF (aH a' b') n [t2,t3,t4,t5,.v (.lst ([L0,L1].map nI)),.v (.lst ([R0,R1].map nI)),s8,.no,.no,.no,.no,.no]):=by
  simp only[kT,m2,m3,m4,m5,m8,NN];rfl
 have lp:=pX (ρ:=eF (aH a' b') n [t2,t3,t4,t5,.v (.lst ([L0,L1].map nI)),.v (.lst ([R0,R1].map nI)),s8,.no,.no,.no,.no,.no,.no]) (p:=bQ (aw (kR true) (ai 14) (cz (aa (aw bo (ai 6) (aD (.int i))) (aa (aw bo (ai 7) (aD (.int i))) (aj)))))) (q:=λz=> !decide (z∈[u,v])) (λz=>⟨eF (aH a' b') n [t2,t3,t4,t5,.v (.lst ([L0,L1].map nI)),.v (.lst ([R0,R1].map nI)),s8,.no,.no,.no,.no,.no,.v (nI z)],rfl,
  bY ((aB (x:=nI z) (y:=.tup ([u,v].map nI)) rfl (ck (al (hu' _ _) (al (hv' _ _) rfl)) (by simp))).trans (HY _ _)),rfl,mx _⟩) o
 unfold eZ;rw[gi,NN];dsimp only;rw[if_pos (by rw[NK,O.len];exact OE (show n<=900 by omega) (by decide))];rw[show eF (aH a' b') n [t2,t3,t4,t5,.v (.lst ([L0,L1].map nI)),.v (.lst ([R0,R1].map nI)),s8,.no,.no,.no,.no,.no]++NR 1 Sl.no=eF (aH a' b') n [t2,t3,t4,t5,.v (.lst ([L0,L1].map nI)),.v (.lst ([R0,R1].map nI)),s8,.no,.no,.no,.no,.no,.no] from rfl,lp,NN];dsimp only;rw[mx0];rfl
theorem wX(bg:List D)(t2 t3 t4 t5 t6 t7:Sl)(l:List Nat)(hl:l.length=n-2): ∀(k:Nat) (c:Nat) (x:List Nat) (s10 s11:Sl),c+k=n-2->x.length=n-2-> ∃(x':List Nat) (s10' s11':Sl),(x'.length=n-2/\x'.Perm x)/\fO (gN 10) (aC (a8 11 (aw cB (aw bP (ai 10) (aD (.int 1))) (aw gV (ai 1) (aD (.int 2)))))
 (fB (bQ (aw pJ (aw bo (eB 9) (ai 10)) (aw bo (ai 8) (ai 10)))) (cy (gT 2 (cQ (cT 9 (ai 10)) (cQ (cT 9 (ai 11)) (gU)))) (pu (cz (aa (aw bo (eB 9) (ai 11)) (aa (aw bo (eB 9) (ai 10)) (aj)))))) (skip))) ((Q6 c k).map nI)
 (eF bg n [t2,t3,t4,t5,t6,t7,.v (.lst (l.map nI)),.own (x.map nI),s10,s11,.no,.no])=.nx (eF bg n [t2,t3,t4,t5,t6,t7,.v (.lst (l.map nI)),.own (x'.map nI),s10',s11',.no,.no])
 |0,c,x,s10,s11,_,hx=>⟨x,s10,s11,⟨hx,.refl _⟩,rfl⟩
 |k+1,c,x,s10,s11,h,hx=>by
  have hd:(c+1) % (n-2)<n-2:=P4 _ (by omega)
  let st:List Nat->Sl->aF:=λx s11=>eF bg n [t2,t3,t4,t5,t6,t7,.v (.lst (l.map nI)),.own (x.map nI),.v (nI c),s11,.no,.no]
  have sb: ∀s11,aw gV (ai 1) (aD (.int 2)) (st x s11)=some (nI (n-2)):=λs11=>by
   refine(aB (x:=nI n) (y:=.int 2) rfl rfl).trans ((iI _ _).trans ?_);show some (D.int _)=some (D.int _);congr 2;omega
  have e1:a8 11 (aw cB (aw bP (ai 10) (aD (.int 1))) (aw gV (ai 1) (aD (.int 2)))) (st x s11)=.nx (st x (.v (nI ((c+1) % (n-2))))):=
   (bd ((aB ((aB (x:=nI c) (y:=.int 1) rfl rfl).trans (Ce c)) (sb _)).trans (LA (by omega)))).trans rfl
  have i1:aw bo (eB 9) (ai 10) (st x (.v (nI ((c+1) % (n-2)))))=some (nI (x.getD c 0)):=(aB (x:=.lst (x.map nI)) (y:=nI c) rfl rfl).trans (As (by omega));have i2:aw bo (ai 8) (ai 10) (st x (.v (nI ((c+1) % (n-2)))))=some (nI (l.getD c 0)):=(aB (x:=.lst (l.map nI)) (y:=nI c) rfl rfl).trans (As (by omega));have i3:aw bo (eB 9) (ai 11) (st x (.v (nI ((c+1) % (n-2)))))=some (nI (x.getD ((c+1) % (n-2)) 0)):=(aB (x:=.lst (x.map nI)) (y:=nI ((c+1) % (n-2))) rfl rfl).trans (As (by omega));have tt:bQ (aw pJ (aw bo (eB 9) (ai 10)) (aw bo (ai 8) (ai 10))) (st x (.v (nI ((c+1) % (n-2)))))=some (decide (x.getD c 0=l.getD c 0)):=bY ((aB i1 i2).trans (by rw[oK (by rw[fM];omega),iX]));obtain⟨x2,⟨hx2,px2⟩,e2⟩: ∃x2:List Nat,(x2.length=n-2/\x2.Perm x)/\fB (bQ (aw pJ (aw bo (eB 9) (ai 10)) (aw bo (ai 8) (ai 10)))) (cy (gT 2 (cQ (cT 9 (ai 10)) (cQ (cT 9 (ai 11)) (gU)))) (pu (cz (aa (aw bo (eB 9) (ai 11)) (aa (aw bo (eB 9) (ai 10)) (aj)))))) (skip) (st x (.v (nI ((c+1) % (n-2)))))=.nx (st x2 (.v (nI ((c+1) % (n-2))))):=by
   by_cases e:x.getD c 0=l.getD c 0
   ·rw[decide_eq_true e] at tt;refine⟨(x.set c (x.getD ((c+1) % (n-2)) 0)).set ((c+1) % (n-2)) (x.getD c 0),⟨by simp[hx],swap_perm x c ((c+1) % (n-2)) (by omega) (by omega)⟩,(gF tt).trans ?_⟩;unfold cy;rw[fU (ck (al i3 (al i1 rfl)) (by simp))];simp only[gT,On,RP,cQ];rw[mX (bs:=x.map nI) (j:=c) rfl rfl (by simp;omega)];simp only[NN];rw[mX (bs:=(x.map nI).set c (nI (x.getD ((c+1) % (n-2)) 0))) (j:=(c+1) % (n-2)) rfl rfl (by simp;omega)];rw[qc,qc];rfl
   ·rw[decide_eq_false e] at tt;exact⟨x,⟨hx,.refl _⟩,(mq tt).trans rfl⟩
  obtain⟨x',s10',s11',h1,h2⟩:=wX bg t2 t3 t4 t5 t6 t7 l hl k (c+1) x2 (.v (nI c)) (.v (nI ((c+1) % (n-2)))) (by omega) hx2;refine⟨x',s10',s11',⟨h1.1,h1.2.trans px2⟩,?_⟩;rw[Uh,NS];exact(fI (ρ1:=st x s11) rfl ((aA e1).trans e2)).trans h2
theorem wZ(l:List Nat)(c p q:Nat)(hc:c<=l.length):(l.take c++[p,q]++l.drop c).length=l.length+2/\(l.take c++[p,q]++l.drop c).getD c 0=p/\(l.take c++[p,q]++l.drop c).getD (c+1) 0=q:=by
 have e:(l.take c).length=c:=by rw[Qy];omega
 refine⟨by simp;omega,?_,?_⟩
 ·rw[Oy,Pj,Ox (by omega),e,Uq];rfl
 ·rw[Oy,Pj,Ox (by omega),e,show c+1-c=1 by omega];rfl
omit h4 h5 in
theorem Aw {l:List Nat}{u v:Nat}(p:l.Perm ((ND n).filter λz=> !decide (z∈[u,v])))(hu:u<n)(hv:v<n)(ne:u≠v)(c:Nat):Ord n (l.take c++[u,v]++l.drop c):=by
 constructor;have e1:(l.take c++[u,v]++l.drop c).Perm ([u,v]++l):=by
  have:(l.take c++[u,v]++l.drop c).Perm ([u,v]++l.take c++l.drop c):=UH _ UZ;rwa [Pj [u,v],Rm] at this
 refine e1.trans ((Rr _ p).trans ((Ou ?_ Oh).mpr λz=>?_))
 ·rw[Qn];refine⟨by simp[ne],Oh.filter _,λa ha b hb e=>?_⟩;subst e;have:=(OU.mp hb).2;rw[decide_eq_true ha] at this;cases this
 ·rw[Pt,OU,NF,O0,decide_eq_false_iff_not];constructor
  ·rintro(h|h)
   ·simp only[Oc,P2,or_false] at h;rcases h with rfl|rfl
    ·exact hu
    ·exact hv
   ·exact h.1
  ·intro h
   by_cases q:z∈[u,v]
   ·exact .inl q
   ·exact .inr ⟨h,q⟩
theorem EB {N:Nat}{a b:Int}(B:Bag N a b)(hN:N<=100): ∃(r x:List Nat) (c:Nat) (bg:List D),bZ (aH a b) [nI n]=some (.tup [c6 r x,nI c],bg)/\(∃N' a' b',Bag N' a' b'/\N'<=400/\bg=aH a' b')/\Ord n r/\Ord n x/\c+1<n/\NI n (r.getD c 0) (x.getD c 0) (r.getD (c+1) 0) (x.getD (c+1) 0):=by
 obtain⟨d,a1,b1,e1,B1,d0,d1⟩:=pA (m:=(n:Int) -1) B (by omega) (by omega) (NV (show((n:Int) -1).natAbs<10^10 by omega) (by decide));obtain⟨c,rfl⟩: ∃c:Nat,d=(c:Int):=⟨d.toNat,by omega⟩
 have hc:c+1<n:=by omega
 obtain⟨w0,w1,w2,w3,a2,b2,k0,k1,k2,k3,B2,ew⟩:=Gt B1 (by omega) n c;obtain⟨o,a3,b3,eo,O,B3⟩:=ql B2 (n:=n) (by omega) (by omega);have ot:(o.take 4).length=4:=by rw[Qy,O.len];omega
 obtain⟨f0,f1,f2,f3,es,l01,l12,l23,l3⟩:=Lb (n:=n) ot ((O.perm.nodup_iff.mpr Oh).sublist (R6 _ _)) (λv hv=>O.lt (U0 hv))
 let W:D:=.lst [.int w0,.int w1,.int w2,.int w3]
 have q1:ki 2 (aQ 0 1 bn (cN (aa (aw gV (ai 1) (aD (.int 1))) (aj)))) (ud 14 (aH a b) [nI n])=.nx (eF (aH a1 b1) n [.v (nI c),.no,.no,.no,.no,.no,.no,.no,.no,.no,.no,.no]):=
  (kI (dM (i:=0) (n:=1) (b0:=aH a b) (ds:=[.int ((n:Int) -1)]) rfl (cF (al ((aB (x:=nI n) (y:=.int 1) rfl rfl).trans (iI _ _)) rfl)) rfl rfl e1)).trans rfl
 have q2:ki 3 (eZ 1 (cN (eD (aa (aD (.int 4)) (aj)))) (gN 14) (bT) (aQ 0 1 bn (cN (aa (aD (.int 2)) (aj))))) (eF (aH a1 b1) n [.v (nI c),.no,.no,.no,.no,.no,.no,.no,.no,.no,.no,.no])=.nx (eF (aH a2 b2) n [.v (nI c),.v W,.no,.no,.no,.no,.no,.no,.no,.no,.no,.no]):=(kI ew).trans rfl;have q3:ki 4 (jS cO (ga (CO (aQ 0 1 bB (cN (aa (ai 1) (aj)))) nH (jQ (aD (.int 4)))) (cN (aj)))) (eF (aH a2 b2) n [.v (nI c),.v W,.no,.no,.no,.no,.no,.no,.no,.no,.no,.no])=.nx (eF (aH a3 b3) n [.v (nI c),.v W,.v (.lst ([f0,f1,f2,f3].map nI)),.no,.no,.no,.no,.no,.no,.no,.no,.no]):=by
  refine(kI (vc (ρ1:=eF (aH a3 b3) n [.v (nI c),.v W,.no,.no,.no,.no,.no,.no,.no,.no,.no,.no]) (ds:=[.lst ((o.take 4).map nI)]) (mJ ?_ (cF rfl)) es)).trans rfl;unfold CO;rw[show aQ 0 1 bB (cN (aa (ai 1) (aj))) (eF (aH a2 b2) n [.v (nI c),.v W,.no,.no,.no,.no,.no,.no,.no,.no,.no,.no])=some (.lst (o.map nI),eF (aH a3 b3) n [.v (nI c),.v W,.no,.no,.no,.no,.no,.no,.no,.no,.no,.no]) from dM (i:=0) (n:=1) (b0:=aH a2 b2) (ds:=[nI n]) rfl (cF rfl) rfl rfl eo,NN];show some (D.lst (lQ (o.map nI) none (some ((4:Nat):Int))),_)=_;rw[EC]
 have iw: ∀(j:Nat) (w:Int) (bg:List D) (t:List Sl),[D.int w0,.int w1,.int w2,.int w3][j]? =some (.int w)->aw bo (ai 3) (aD (.int j)) (eF bg n (.v (nI c):: .v W::t))=some (.int w):=λj w bg t hw=>(aB (x:=W) (y:=.int j) rfl rfl).trans (uq hw)
 obtain⟨g0,g1,g2,g3,q4,NI0⟩: ∃g0 g1 g2 g3:Nat,a8 4 (aw gE (ft (ai 4) (jQ (aw bo (ai 3) (aD (.int 0)))) nH) (ft (ai 4) nH (jQ (aw bo (ai 3) (aD (.int 0)))))) (eF (aH a3 b3) n [.v (nI c),.v W,.v (.lst ([f0,f1,f2,f3].map nI)),.no,.no,.no,.no,.no,.no,.no,.no,.no])=.nx (eF (aH a3 b3) n [.v (nI c),.v W,.v (.lst ([g0,g1,g2,g3].map nI)),.no,.no,.no,.no,.no,.no,.no,.no,.no])/\NI n g0 g1 g2 g3:=by
  obtain⟨w,rfl⟩: ∃w:Nat,w0=(w:Int):=⟨w0.toNat,by omega⟩
  have i0:=iw 0 w (aH a3 b3) [.v (.lst ([f0,f1,f2,f3].map nI)),.no,.no,.no,.no,.no,.no,.no,.no,.no] rfl;have z:=(bd (i:=4) ((aB (mt (f:=ai 4) (l:=[f0,f1,f2,f3]) rfl i0) (uc (f:=ai 4) (l:=[f0,f1,f2,f3]) rfl i0)).trans (DU _ _ (by simp;omega))))
  have hw:w=0\/w=1:=by omega
  rcases hw with rfl|rfl
  ·refine⟨f0,f1,f2,f3,z.trans rfl,by omega,by omega,by omega,by omega,by omega,by omega,by omega,by omega,by omega,by omega,?_⟩;unfold nJ;rw[Ov];simp only[NQ,decide_eq_true_eq];omega
  ·refine⟨f1,f2,f3,f0,z.trans rfl,by omega,by omega,by omega,by omega,by omega,by omega,by omega,by omega,by omega,by omega,?_⟩;unfold nJ;rw[Ov];simp only[NQ,decide_eq_true_eq];omega
 have q5:a8 5 (cq (aa (ft (ai 4) nH (jQ (aD (.int 2)))) (aa (ft (ai 4) (jQ (aD (.int 2))) nH) (aj)))) (eF (aH a3 b3) n [.v (nI c),.v W,.v (.lst ([g0,g1,g2,g3].map nI)),.no,.no,.no,.no,.no,.no,.no,.no,.no])=.nx (eF (aH a3 b3) n [.v (nI c),.v W,.v (.lst ([g0,g1,g2,g3].map nI)),.v (.lst [.lst ([g0,g1].map nI),.lst ([g2,g3].map nI)]),.no,.no,.no,.no,.no,.no,.no,.no]):=
  (bd (fo (al (uc (f:=ai 4) (l:=[g0,g1,g2,g3]) (a:=2) rfl rfl) (al (mt (f:=ai 4) (l:=[g0,g1,g2,g3]) (a:=2) rfl rfl) rfl)) (by simp))).trans rfl
 obtain⟨p0,p1,p2,p3,q6,NI1⟩: ∃p0 p1 p2 p3:Nat,fB (bQ (aw pJ (aw bo (ai 3) (aD (.int 1))) (aD (.int 1)))) (a8 5 (rH (ai 5) (jQ (kS (aD (.int 1)))))) (skip) (eF (aH a3 b3) n [.v (nI c),.v W,.v (.lst ([g0,g1,g2,g3].map nI)),.v (.lst [.lst ([g0,g1].map nI),.lst ([g2,g3].map nI)]),.no,.no,.no,.no,.no,.no,.no,.no])=.nx (eF (aH a3 b3) n [.v (nI c),.v W,.v (.lst ([g0,g1,g2,g3].map nI)),.v (.lst [.lst ([p0,p1].map nI),.lst ([p2,p3].map nI)]),.no,.no,.no,.no,.no,.no,.no,.no])/\NI n p0 p1 p2 p3:=by
  have tt:=xQ (iw 1 w1 (aH a3 b3) [.v (.lst ([g0,g1,g2,g3].map nI)),.v (.lst [.lst ([g0,g1].map nI),.lst ([g2,g3].map nI)]),.no,.no,.no,.no,.no,.no,.no,.no] rfl)
  by_cases e:w1=1
  ·rw[decide_eq_true e] at tt;exact⟨g2,g3,g0,g1,(gF tt).trans ((bd (IF (f:=ai 5) (ds:=[.lst ([g0,g1].map nI),.lst ([g2,g3].map nI)]) rfl)).trans rfl),NI0.swap h5⟩
  ·rw[decide_eq_false e] at tt;exact⟨g0,g1,g2,g3,(mq tt).trans rfl,NI0⟩
 have q7:cy (gL 2 (cQ (gN 6) (cQ (gN 7) (gU)))) (pu (ai 5)) (eF (aH a3 b3) n [.v (nI c),.v W,.v (.lst ([g0,g1,g2,g3].map nI)),.v (.lst [.lst ([p0,p1].map nI),.lst ([p2,p3].map nI)]),.no,.no,.no,.no,.no,.no,.no,.no])=.nx (eF (aH a3 b3) n [.v (nI c),.v W,.v (.lst ([g0,g1,g2,g3].map nI)),.v (.lst [.lst ([p0,p1].map nI),.lst ([p2,p3].map nI)]),.v (.lst ([p0,p1].map nI)),.v (.lst ([p2,p3].map nI)),.no,.no,.no,.no,.no,.no]):=dS (fU rfl) rfl;generalize hG:(Sl.v (.lst ([g0,g1,g2,g3].map nI)))=G4 at q7;generalize hP:(Sl.v (.lst [.lst ([p0,p1].map nI),.lst ([p2,p3].map nI)]))=G5 at q7;obtain⟨l0,l1,q8,NI2⟩: ∃l0 l1:Nat,fB (bQ (aw pJ (aw bo (ai 3) (aD (.int 2))) (aD (.int 1)))) (a8 6 (rH (ai 6) (jQ (kS (aD (.int 1)))))) (skip) (eF (aH a3 b3) n [.v (nI c),.v W,G4,G5,.v (.lst ([p0,p1].map nI)),.v (.lst ([p2,p3].map nI)),.no,.no,.no,.no,.no,.no])=.nx (eF (aH a3 b3) n [.v (nI c),.v W,G4,G5,.v (.lst ([l0,l1].map nI)),.v (.lst ([p2,p3].map nI)),.no,.no,.no,.no,.no,.no])/\NI n l0 l1 p2 p3:=by
  have tt:=xQ (iw 2 w2 (aH a3 b3) [G4,G5,.v (.lst ([p0,p1].map nI)),.v (.lst ([p2,p3].map nI)),.no,.no,.no,.no,.no,.no] rfl)
  by_cases e:w2=1
  ·rw[decide_eq_true e] at tt;exact⟨p1,p0,(gF tt).trans ((bd (IF (f:=ai 6) (ds:=[p0,p1].map nI) rfl)).trans rfl),NI1.revL⟩
  ·rw[decide_eq_false e] at tt;exact⟨p0,p1,(mq tt).trans rfl,NI1⟩
 obtain⟨r0,r1,q9,NI3⟩: ∃r0 r1:Nat,fB (bQ (aw pJ (aw bo (ai 3) (aD (.int 3))) (aD (.int 1)))) (a8 7 (rH (ai 7) (jQ (kS (aD (.int 1)))))) (skip) (eF (aH a3 b3) n [.v (nI c),.v W,G4,G5,.v (.lst ([l0,l1].map nI)),.v (.lst ([p2,p3].map nI)),.no,.no,.no,.no,.no,.no])=.nx (eF (aH a3 b3) n [.v (nI c),.v W,G4,G5,.v (.lst ([l0,l1].map nI)),.v (.lst ([r0,r1].map nI)),.no,.no,.no,.no,.no,.no])/\NI n l0 l1 r0 r1:=by
  have tt:=xQ (iw 3 w3 (aH a3 b3) [G4,G5,.v (.lst ([l0,l1].map nI)),.v (.lst ([p2,p3].map nI)),.no,.no,.no,.no,.no,.no] rfl)
  by_cases e:w3=1
  ·rw[decide_eq_true e] at tt;exact⟨p3,p2,(gF tt).trans ((bd (IF (f:=ai 7) (ds:=[p2,p3].map nI) rfl)).trans rfl),NI2.revR⟩
  ·rw[decide_eq_false e] at tt;exact⟨p2,p3,(mq tt).trans rfl,NI2⟩
 have m4:yZ G4 G4=some G4:=by rw[<-hG];rfl
 have m5:yZ G5 G5=some G5:=by rw[<-hP];rfl
 obtain⟨lr,a4,b4,⟨hlr,plr⟩,B4,er⟩:=zd h4 h5 B3 (by omega) (.v (nI c)) (.v W) G4 G5 .no l0 l1 r0 r1 0 l0 r0 (λs hs=>by
  simp only[Oc,P2,or_false] at hs;rcases hs with rfl|rfl|rfl|rfl|rfl
  ·rfl
  ·rfl
  ·exact m4
  ·exact m5
  ·rfl) (λbg t=>rfl) (λbg t=>rfl) NI3.ha NI3.hp NI3.ap
 have q10:=(kI (i:=8) er).trans (show Out.nx _=Out.nx (eF (aH a4 b4) n [.v (nI c),.v W,G4,G5,.v (.lst ([l0,l1].map nI)),.v (.lst ([r0,r1].map nI)),.v (.lst (lr.map nI)),.no,.no,.no,.no,.no]) from rfl)
 obtain⟨lx,a5,b5,⟨hlx,plx⟩,B5,ex⟩:=zd h4 h5 B4 (by omega) (.v (nI c)) (.v W) G4 G5 (.v (.lst (lr.map nI))) l0 l1 r0 r1 1 l1 r1 (λs hs=>by
  simp only[Oc,P2,or_false] at hs;rcases hs with rfl|rfl|rfl|rfl|rfl
  ·rfl
  ·rfl
  ·exact m4
  ·exact m5
  ·rfl) (λbg t=>rfl) (λbg t=>rfl) NI3.hb NI3.hq NI3.bq
 have q11:=(FC (i:=9) ex).trans (show Out.nx _=Out.nx (eF (aH a5 b5) n [.v (nI c),.v W,G4,G5,.v (.lst ([l0,l1].map nI)),.v (.lst ([r0,r1].map nI)),.v (.lst (lr.map nI)),.own (lx.map nI),.no,.no,.no,.no]) from rfl);obtain⟨lx',s10,s11,⟨hlx',plx'⟩,e12⟩:=wX h4 h5 (aH a5 b5) (.v (nI c)) (.v W) G4 G5 (.v (.lst ([l0,l1].map nI))) (.v (.lst ([r0,r1].map nI))) lr hlr (n-2) 0 lx .no .no (by omega) hlx
 let S:Sl->Sl->aF:=λs12 s13=>eF (aH a5 b5) n [.v (nI c),.v W,G4,G5,.v (.lst ([l0,l1].map nI)),.v (.lst ([r0,r1].map nI)),.v (.lst (lr.map nI)),.own (lx'.map nI),s10,s11,s12,s13]
 have sb:aw gV (ai 1) (aD (.int 2)) (eF (aH a5 b5) n [.v (nI c),.v W,G4,G5,.v (.lst ([l0,l1].map nI)),.v (.lst ([r0,r1].map nI)),.v (.lst (lr.map nI)),.own (lx.map nI),.no,.no,.no,.no])=some (nI (n-2)):=by
  refine(aB (x:=nI n) (y:=.int 2) rfl rfl).trans ((iI _ _).trans ?_);show some (D.int _)=some (D.int _);congr 2;omega
 have q12:jn (cN (eD (aa (aw gV (ai 1) (aD (.int 2))) (aj)))) (gN 10) (aC (a8 11 (aw cB (aw bP (ai 10) (aD (.int 1))) (aw gV (ai 1) (aD (.int 2)))))
  (fB (bQ (aw pJ (aw bo (eB 9) (ai 10)) (aw bo (ai 8) (ai 10)))) (cy (gT 2 (cQ (cT 9 (ai 10)) (cQ (cT 9 (ai 11)) (gU)))) (pu (cz (aa (aw bo (eB 9) (ai 11)) (aa (aw bo (eB 9) (ai 10)) (aj)))))) (skip))) (eF (aH a5 b5) n [.v (nI c),.v W,G4,G5,.v (.lst ([l0,l1].map nI)),.v (.lst ([r0,r1].map nI)),.v (.lst (lr.map nI)),.own (lx.map nI),.no,.no,.no,.no])=.nx (S .no .no):=
  (js (ds:=(Q6 0 (n-2)).map nI) (cF ((gM (n:=n-2) (al sb rfl) (by omega)).trans (by rw[SO])))).trans e12
 have q13:a8 12 (aw gE (aw gE (ft (ai 8) nH (jQ (ai 2))) (cq (aa (aw bo (ai 6) (aD (.int 0))) (aa (aw bo (ai 7) (aD (.int 0))) (aj))))) (ft (ai 8) (jQ (ai 2)) nH)) (S .no .no)=.nx (S (.v (.lst ((lr.take c++[l0,r0]++lr.drop c).map nI))) .no):=by
  refine(bd ((aB ((aB (uc (f:=ai 8) (l:=lr) (g:=ai 2) (a:=c) rfl rfl) (fo (ds:=[l0,r0].map nI) rfl (by simp))).trans (DU _ _ (by simp;omega))) (mt (f:=ai 8) (l:=lr) (g:=ai 2) (a:=c) rfl rfl)).trans (DU _ _ (by simp;omega)))).trans rfl
 have q14:a8 13 (aw gE (aw gE (ft (eB 9) nH (jQ (ai 2))) (cq (aa (aw bo (ai 6) (aD (.int 1))) (aa (aw bo (ai 7) (aD (.int 1))) (aj))))) (ft (eB 9) (jQ (ai 2)) nH)) (S (.v (.lst ((lr.take c++[l0,r0]++lr.drop c).map nI))) .no)=.nx (S (.v (.lst ((lr.take c++[l0,r0]++lr.drop c).map nI))) (.v (.lst ((lx'.take c++[l1,r1]++lx'.drop c).map nI)))):=by
  refine(bd ((aB ((aB (uc (f:=eB 9) (l:=lx') (g:=ai 2) (a:=c) rfl rfl) (fo (ds:=[l1,r1].map nI) rfl (by simp))).trans (DU _ _ (by simp;omega))) (mt (f:=eB 9) (l:=lx') (g:=ai 2) (a:=c) rfl rfl)).trans (DU _ _ (by simp;omega)))).trans rfl
 obtain⟨z1,z2,z3⟩:=wZ h4 h5 lr c l0 r0 (by omega);obtain⟨y1,y2,y3⟩:=wZ h4 h5 lx' c l1 r1 (by omega);refine⟨lr.take c++[l0,r0]++lr.drop c,lx'.take c++[l1,r1]++lx'.drop c,c,aH a5 b5,?_,⟨_,_,_,B5,by omega,rfl⟩,Aw plr NI3.ha NI3.hp NI3.ap c,Aw (plx'.trans plx) NI3.hb NI3.hq NI3.bq c,hc,by rw[z2,z3,y2,y3];exact NI3⟩;subst hG hP;unfold bZ BZ iB;rw[aA q1,aA q2,aA q3,aA q4,aA q5,aA q6,aA q7,aA q8,aA q9,aA q10,aA q11,aA q12,aA q13,aA q14];rfl
end
def Kf(l:List Nat)(c:Nat):List Nat:=l.take c++[l.getD (c+1) 0,l.getD c 0]++l.drop (c+2)
theorem j0(l:List Nat):ay l=de (zs l):=by unfold ay de zs;rw[N6];rfl
theorem JQ(L:List (List Nat)):L.map ay=(L.map zs).map de:=by rw[N6];exact Oq λl _=>j0 l
abbrev rO(K:List (List Int)):List (List Int):=bj bu K
abbrev kD(K:List (List Int)):D:=.lst (K.map de)
theorem mem_srt {K:List (List Int)}{k:List Int}:k∈rO K↔k∈K:=(aS (lt:=bu) K).mem_iff
theorem uK {n:Nat}(h:0<n){K:List (List Int)}(hK:jK n K): ∀k∈K,k≠[]:=λk hk e=>by
 obtain⟨o,O,rfl⟩:=hK k hk;have l1:=O.len;have:=congrArg Rx e;unfold zs at this;simp at this;rw[this] at l1;simp at l1;omega
theorem zQ {ks:List (List Int)}(hl:ks.length<64)(hk: ∀k∈ks,k≠[]):cA [kD ks]=some (kD (cn ks)):=JM hl hk
theorem rQ {n:Nat}{r x:List Nat}(h2:2<=n)(hn:n<=5)(R:Ord n r)(X:Ord n x){K:List (List Int)}(hK:jK n K)(hl:(bK n r x K).length<64):dJ [c6 r x,kD K]=some (kD (J9 n r x K)):=by
 apply aV (kd:=.n) (n:=2) (t:=pP) (ρ:=[.v (c6 r x),.v (kD K)]);unfold pP;refine aT ((aN (ds:=[kD (bK n r x K)]) (al ?_ rfl) rfl).trans (zQ hl (uK (by omega) (xw hK))));have e:K=(K.map uz).map zs:=by
  rw[N6];refine(T0 K).symm.trans (Oq λk hk=>?_);obtain⟨o,O,rfl⟩:=hK k hk;show zs o=zs (uz (zs o));rw[iG]
 refine kB (ds:=K.map de) (ys:=(bK n r x K).map de) (fD rfl) ?_ (by rw[NK];omega)
 refine(dz (h:=de) (q:=λ_=>true) (o:=λk=>(eI n r x k).map de) K λk hk=>⟨[.v (c6 r x),.v (kD K),.v (de k),.no,.no,.no],rfl,rfl,λ_=>?_⟩).trans ?_
 ·obtain⟨o,O,rfl⟩:=hK k hk;refine n5 (ds:=(sp n (cg r x o)).map λp=>x8 o p.1 p.2) (fD ((aN (ds:=[c6 r x,ay o]) (al rfl (al (by rw[j0];rfl) rfl)) rfl).trans ((DY O R.len X.len (by omega) (by omega)).trans (by rw[GB O.len])))) ?_
  refine(dz (h:=λp:Nat×Nat=>x8 o p.1 p.2) (q:=λ_=>true) (o:=λp=>[de (zs (br o p.1 p.2))]) (sp n (cg r x o)) λp hp=>⟨[.v (c6 r x),.v (kD K),.v (de (zs o)),.v (nI p.1),.v (nI p.2),.v (ay (br o p.1 p.2))],rfl,rfl,λ_=>kJ (by rw[<-j0 (br o p.1 p.2)];rfl)⟩).trans ?_
  rw[OW.mpr (λ_ _=>rfl),jT];unfold eI;rw[iG,N6];rfl
 ·rw[OW.mpr (λ_ _=>rfl)];unfold bK;rw[Qf]
theorem Fb(P Q:Nat->Bool)(o:List Nat)(i j:Nat):(qx P Q o i j).length<=2:=by unfold qx;split<;>split<;>simp
theorem zR {α β:Type}(f:α->List β)(m:Nat): ∀l:List α,(∀x∈l,(f x).length<=m)->(l.flatMap f).length<=m*l.length
 | [],_=>by simp
 |x::l,h=>by
  rw[Oj,Of,On,Wp];have:=zR f m l λy hy=>h y (by simp[hy])
  have:=h x (by simp);omega
theorem uV: ∀(c:Nat) (l:List Nat),c+1<l.length->br l c (c+1)=Kf l c
 |0,a::b::l,_=>rfl
 |c+1,a::l,h=>by
  rw[On] at h;have:=uV c l (by omega);unfold br Kf at this⊢;rw[Ts,Ts,S5,RF,Ud,Ud];exact congrArg (a:: ·) this
 |0,[],h=>by simp at h
 |0,[_],h=>by simp at h
 |_+1,[],h=>by simp at h
theorem JD {n:Nat}{r x:List Nat}{c:Nat}(hr:r.length=n)(hx:x.length=n)(hc:c+1<n)(h4:n<=6)(h:NI n (r.getD c 0) (x.getD c 0) (r.getD (c+1) 0) (x.getD (c+1) 0)):bH [c6 r x,nI c]=some (c6 (Kf r c) (Kf x c)):=by
 have hm:Dp r x (c:Int)=true:=by
  unfold Dp JG;rw[PL];have n1:=h.ni;unfold nJ at n1;unfold Ht;rw[n1];simp only[NQ,decide_eq_true_eq,beq_self_eq_true,O0,Vh,decide_eq_false_iff_not];exact⟨⟨by omega,by omega⟩,⟨⟨h.ap,h.aq⟩,h.bp,h.bq⟩,trivial⟩
 have p1:jj (fA (ak (nF 2 gh) (aa (ai 0) (aa (ai 1) (aj))))) (ka 4 [c6 r x,nI c])=some (!Dp r x c):=lU (jd ((aN (ds:=[c6 r x,nI c]) rfl rfl).trans (GP hr hx (by omega) h4 c)));rw[hm] at p1;have a1: ∀(i:Nat) (l:List Nat),l.length=n->ai i [.v (c6 r x),.v (nI c),.v (ay r),.v (ay x)]=some (ay l)->ak (nF 3 bF) (aa (ai i) (aa (ai 1) (aa (aw bP (ai 1) (aD (.int 1))) (aj)))) [.v (c6 r x),.v (nI c),.v (ay r),.v (ay x)]=some (ay (Kf l c)):=λi l hl hi=>by
  rw[<-uV c l (by omega)];exact(aN (ds:=[ay l,nI c,nI (c+1)]) (al hi (al rfl (al ((aB (x:=nI c) (y:=.int 1) rfl rfl).trans (Ce c)) rfl))) rfl).trans (zp hl (by omega) hc)
 apply aV (kd:=.s) (n:=4) (t:=eP) (ρ:=[.v (c6 r x),.v (nI c),.v (ay r),.v (ay x)]);unfold eP;exact(aA (jr p1)).trans ((aA (ρ':=[.v (c6 r x),.v (nI c),.v (ay r),.v (ay x)]) (dS (fU rfl) rfl)).trans (aT (ck (al (a1 2 r hr rfl) (al (a1 3 x hx rfl) rfl)) (by simp))))
theorem BG {n:Nat}{S:jP}{c:Nat}{rs ls:List jP}{rt lt:List Nat}(h4:4<=n)(h5:n<=5)(hS:Ln n S)(hc:c+1<n)(hrs: ∀S∈rs,Ln n S)(hls: ∀S∈ls,Ln n S)(hrt:rt.length<rs.length)(hlt:lt.length<ls.length){K:List (List Int)}(hK:jK n K)(hl:(K.flatMap (eR n λo a b=>(decide (a=c+1)&&dI n S o (c+1) b (c+1) rs rt)||(decide (b=c+1)&&dI n S o a (c+1) c ls lt))).length<64){i5 i6 i7 i8:Nat}{ρ:aF}
 (hg: ∀o,∃ρ1,gN i7 (ay o) (ρ++[.no,.no])=some ρ1/\aa (ai 0) (aa (ai 1) (aa (ai i7) (aa (ai i5) (aa (ai i6) (aj))))) ρ1=some [kr S,nI c,ay o,dH rs rt,dH ls lt]/\ ∀e,∃ρ2,gN i8 (ay e) ρ1=some ρ2/\ai i8 ρ2=some (ay e))
 (h2:ai 2 ρ=some (kD K)):
 ak (nF 1 cA) (aa (kl 2 (cX (ai 2)) (gN i7) (bT) (cX (ak (nF 5 eK) (aa (ai 0) (aa (ai 1) (aa (ai i7) (aa (ai i5) (aa (ai i6) (aj)))))))) (gN i8) (bT) (ai i8)) (aj)) ρ=some (kD (wx (eR n λo a b=>(decide (a=c+1)&&dI n S o (c+1) b (c+1) rs rt)||(decide (b=c+1)&&dI n S o a (c+1) c ls lt)) K)):=by
 let P:List Nat->Nat->Bool:=λo j=>dI n S o (c+1) j (c+1) rs rt
 let Q:List Nat->Nat->Bool:=λo j=>dI n S o j (c+1) c ls lt
 let E:List Int->List (List Int):=λk=>(jU n (P (uz k)) (Q (uz k)) (uz k) (c+1)).map zs
 have pm: ∀k,(E k).Perm (eR n (λo a b=>(decide (a=c+1)&&P o b)||(decide (b=c+1)&&Q o a)) k):=λk=>by
  have:=(rS hc (P (uz k)) (Q (uz k)) (uz k)).map zs;rw[N6] at this;exact this
 have hE:(K.flatMap E).length<64:=by
  rw[pB] at hl⊢;refine Pz (Ux ?_) hl;congr 1;exact Oq λk _=>(pm k).length_eq
 have sE:jK n (K.flatMap E):=λz hz=>by
  obtain⟨k,hk,hz⟩:=Pv.mp hz;obtain⟨o,O,rfl⟩:=hK k hk;exact xJ O z ((pm (zs o)).mem_iff.mp hz)
 have cp:kl 2 (cX (ai 2)) (gN i7) (bT) (cX (ak (nF 5 eK) (aa (ai 0) (aa (ai 1) (aa (ai i7) (aa (ai i5) (aa (ai i6) (aj)))))))) (gN i8) (bT) (ai i8) ρ=some (kD (K.flatMap E)):=by
  refine kB (ds:=K.map de) (ys:=(K.flatMap E).map de) (fD h2) ?_ (by
   rw[NK];omega)
  refine(dz (h:=de) (q:=λ_=>true) (o:=λk=>(E k).map de) K λk hk=>?_).trans ?_
  ·obtain⟨o,O,rfl⟩:=hK k hk;obtain⟨ρ1,g1,g2,g3⟩:=hg o;rw[<-j0];refine⟨ρ1,g1,rfl,λ_=>?_⟩;have ee:(E (zs o)).map de=(jU n (P o) (Q o) o (c+1)).map ay:=by
    show((jU n (P (uz (zs o))) (Q (uz (zs o))) (uz (zs o)) (c+1)).map zs).map de=_;rw[iG,<-JQ]
   rw[ee];refine n5 (ds:=(jU n (P o) (Q o) o (c+1)).map ay) (fD ((aN g2 rfl).trans (Fs (by omega) (by omega) hS O.len hc hrs hls hrt hlt))) ?_
   refine(dz (h:=ay) (q:=λ_=>true) (o:=λe=>[ay e]) (jU n (P o) (Q o) o (c+1)) λe _=>?_).trans ?_
   ·obtain⟨ρ2,g4,g5⟩:=g3 e;exact⟨ρ2,g4,rfl,λ_=>kJ g5⟩
   ·rw[OW.mpr λ_ _=>rfl];congr 1
    induction jU n (P o) (Q o) o (c+1) with
    |nil=>rfl
    |cons y l ih=>rw[Oj,ih];rfl
  ·rw[OW.mpr λ_ _=>rfl,Qf]
 refine(aN (ds:=[kD (K.flatMap E)]) (al cp rfl) rfl).trans ((zQ hE (uK (by omega) sE)).trans ?_);congr 2;refine Dr λz=>?_
 rw[dW,dW];congr 2;exact Oq λk _=>(pm k).count_eq z
theorem EZ {n:Nat}{r x:List Nat}(R:Ord n r)(X:Ord n x):J1 n (r,x):=λk hk=>⟨R.get hk,X.get hk⟩
theorem AQ {n c:Nat}{r:List Nat}(R:Ord n r)(hc:c+1<n):(br r c (c+1)).getD c 0=r.getD (c+1) 0/\(br r c (c+1)).getD (c+1) 0=r.getD c 0/\ ∀k,k≠c->k≠c+1->(br r c (c+1)).getD k 0=r.getD k 0:=by
 have l:=R.len;refine⟨?_,?_,λk h1 h2=>?_⟩
 ·rw[du (by omega) (by omega),if_neg (by omega),if_pos rfl]
 ·rw[du (by omega) (by omega),if_pos rfl]
 ·rw[du (by omega) (by omega),if_neg h2,if_neg h1]
abbrev uA(n c:Nat)(r x:List Nat):List Nat->Nat->Nat->Bool:=Mq n c (r,x) (br r c (c+1),br x c (c+1)) (bA (r.getD c 0) (x.getD c 0) (r.getD (c+1) 0))
section
variable {n c:Nat}{r x:List Nat}(h4:4<=n)(h5:n<=5)(hc:c+1<n)(R:Ord n r)(X:Ord n x)(N:NI n (r.getD c 0) (x.getD c 0) (r.getD (c+1) 0) (x.getD (c+1) 0))
include h4 h5 hc R X N
theorem D3:bH [c6 r x,nI c]=some (c6 (br r c (c+1)) (br x c (c+1))):=by
 rw[uV c r (by rw[R.len];exact hc),uV c x (by rw[X.len];exact hc)];exact JD R.len X.len hc (by omega) N
theorem zA: ∀o,Ord n o-> ∀a b,a<n->b<n->a≠b->(uA n c r x o a b=true↔G3 n c r x (bA (r.getD c 0) (x.getD c 0) (r.getD (c+1) 0)) (r.getD (c+1) 0) (x.getD (c+1) 0) (r.getD c 0) (x.getD c 0) o a b):=λo O a b ha hb ne=>by
 have er:=AQ R hc;have ex:=AQ X hc;exact FN h5 hc (S:=(r,x)) (O:=(br r c (c+1),br x c (c+1))) (EZ R X) (EZ (R.exx (by omega) hc) (X.exx (by omega) hc)) (λ_ _ _ _=>⟨rfl,rfl⟩) er.1 ex.1 er.2.1 ex.2.1 (ur N).1 O ha hb ne
theorem Jc {K:List (List Int)}(hK:jK n K)(hl:(K.flatMap (eR n (uA n c r x))).length<64):vz [c6 r x,nI c,kD K]=some (kD (wx (eR n (uA n c r x)) K)):=by
 let S:jP:=(r,x)
 let O:jP:=(br r c (c+1),br x c (c+1))
 have Re:=R.exx (show c<n by omega) hc;have Xe:=X.exx (show c<n by omega) hc;have hS:Ln n S:=⟨R.len,X.len⟩
 have hO:Ln n O:=⟨Re.len,Xe.len⟩
 have t1:iJ [c6 r x,nI c]=some (nI (bA (r.getD c 0) (x.getD c 0) (r.getD (c+1) 0))):=Fq R.len X.len hc N;generalize hT:bA (r.getD c 0) (x.getD c 0) (r.getD (c+1) 0)=T at t1;apply aV (kd:=.n) (n:=7) (t:=E7);unfold E7;refine(aA (ρ':=[.v (kr S),.v (nI c),.v (kD K),.v (kr O),.no,.no,.no]) ((bd ((aN (ds:=[kr S,nI c]) rfl rfl).trans (D3 h4 h5 hc R X N))).trans rfl)).trans ?_
 refine(aA (ρ':=[.v (kr S),.v (nI c),.v (kD K),.v (kr O),.v (.lst [nI T]),.no,.no]) ((bd (fo (al ((aN (ds:=[kr S,nI c]) rfl rfl).trans t1) rfl) (by simp))).trans rfl)).trans ?_
 refine(aA (ρ':=[.v (kr S),.v (nI c),.v (kD K),.v (kr O),.v (.lst [nI T]),.v (dH [S,O] [T]),.v (dH [O,S] [T])]) (dS (fU (ck (al (ck (al (fo rfl (by simp)) rfl) (by simp)) (al (ck (al (fo rfl (by simp)) rfl) (by simp)) rfl)) (by simp))) rfl)).trans ?_
 refine aT ((BG (i5:=5) (i6:=6) (i7:=7) (i8:=8) h4 h5 hS hc (rs:=[S,O]) (ls:=[O,S]) (rt:=[T]) (lt:=[T]) (λS' hS'=>?_) (λS' hS'=>?_) (by simp) (by simp) hK (by unfold uA at hl;rw[hT] at hl;exact hl) (λo=>⟨_,rfl,rfl,λe=>⟨_,rfl,rfl⟩⟩) rfl).trans ?_)
 ·rcases Oc.mp hS' with q|q
  ·rw[q];exact hS
  ·rw[Om] at q;rw[q];exact hO
 ·rcases Oc.mp hS' with q|q
  ·rw[q];exact hO
  ·rw[Om] at q;rw[q];exact hS
 ·unfold uA;rw[hT];rfl
end
def xy(h:Nat)(q:List Nat)(i:Nat):D:=.tup [.int (2*i+h),.int (2*(q.getD i 0:Nat)+h)]
theorem Ml(q:List Nat):yC (q.map nI)=(ND q.length).map λ(i:Nat)=>D.tup [nI i,nI (q.getD i 0)]:=by
 unfold yC;rw[NK];refine Oq λi hi=>?_
 rw[NF] at hi;congr 3;rw[Oy,OH,NL hi,Oy,NL hi];rfl
theorem sD {n:Nat}{o:List Nat}(O:Ord n o)(hn:n<=8)(h:Nat):fT [ay o,nI h]=some (.lst ((ND n).map (xy h o))):=by
 apply aV (kd:=.n) (n:=2) (t:=j8);unfold j8;refine aT (c9 (ds:=(ND n).map λ(i:Nat)=>D.tup [nI i,nI (o.getD i 0)]) ?_ (by rw[NK,Pc];omega) ?_)
 ·rw[<-O.len,<-Ml];rfl
 ·refine eJ (h:=λ(i:Nat)=>D.tup [nI i,nI (o.getD i 0)]) (o:=xy h o) _ λi hi=>⟨_,rfl,?_⟩
  rw[NF] at hi;have hv:=O.get hi;refine ck (al ((aB ((aB (x:=.int 2) (y:=nI i) rfl rfl).trans (fQ (by decide) ?_)) (y:=nI h) rfl).trans rfl) (al ((aB ((aB (x:=.int 2) (y:=nI (o.getD i 0)) rfl rfl).trans (fQ (by decide) ?_)) (y:=nI h) rfl).trans rfl) rfl)) (by simp)
  ·exact R4 (show i<8 by omega) (by decide)
  ·exact R4 (show o.getD i 0<8 by omega) (by decide)
def Cb(h:Nat)(p:List Nat)(k:Nat)(q:List Nat)(i j:Nat):Bool:=decide ((2*i+h:Int)<2*j+k)&&decide ((2*(p.getD i 0:Nat)+h:Int)<2*(q.getD j 0:Nat)+k)
theorem Gx(p:Nat->Bool)(l:List Nat):((l.filter p).length:Int)=ls l λx=>bi (p x):=by
 have:=oj p (λ_=>1) l;rw[iu] at this;simpa using this
theorem wB {β:Type}(f:Nat->List β): ∀l:List Nat,((l.flatMap f).length:Int)=ls l λx=>((f x).length:Int)
 | []=>rfl
 |x::l=>by rw[Oj,Of,SY,wB f l];rfl
def DH(n h:Nat)(p:List Nat)(k:Nat)(q:List Nat):Int:=ls (ND n) λi=>ls (ND n) λj=>bi (Cb h p k q i j)
theorem Er {n:Nat}(hn:n<=8)(h:Nat)(p:List Nat)(k:Nat)(q:List Nat):gX [.lst ((ND n).map (xy h p)),.lst ((ND n).map (xy k q))]=some (.int (DH n h p k q)):=by
 apply aV (kd:=.s) (n:=2) (t:=uu);unfold uu;refine aT ?_
 rw[bD (ds:=[.lst ((ND n).flatMap λi=>((ND n).filter (Cb h p k q i)).map λ_=>D.bl true)]) (al (kB (ds:=(ND n).map (xy h p)) rfl ?_ ?_) rfl)]
 ·show some (D.int _)=_;rw[wB];congr 2;unfold DH;refine bh λi _=>?_
  rw[NK,Gx]
 ·refine(dz (h:=xy h p) (q:=λ_=>true) (o:=λ(i:Nat)=>((ND n).filter (Cb h p k q i)).map λ_=>D.bl true) (ND n) λi hi=>⟨_,rfl,rfl,λ_=>?_⟩).trans ?_
  ·refine n5 (ds:=(ND n).map (xy k q)) rfl ?_
   refine(dz (h:=xy k q) (q:=Cb h p k q i) (o:=λ(_:Nat)=>[D.bl true]) (ND n) λj hj=>⟨_,rfl,?_,λ_=>kJ rfl⟩).trans ?_
   ·refine ma (a:=decide ((2*i+h:Int)<2*j+k)) (bY (aB (x:=.int (2*i+h)) (y:=.int (2*j+k)) rfl rfl)) (λz=>?_) (λz=>by unfold Cb;rw[z];rfl);unfold Cb;rw[z,OB];exact bY (aB (x:=.int (2*(p.getD i 0:Nat)+h)) (y:=.int (2*(q.getD j 0:Nat)+k)) rfl rfl)
   ·rw[jT]
  ·rw[OW.mpr (λ_ _=>rfl)]
 ·have key: ∀(l:List Nat) (m:Nat) (f:Nat->List D),(∀a,(f a).length<=m)->(l.flatMap f).length<=l.length*m:=by
   intro l m f hf
   induction l with
   |nil=>simp
   |cons a l ih=>rw[Oj,Of,On,Tz,Vd];have:=hf a;omega
  have kk:=key (ND n) n (λi=>((ND n).filter (Cb h p k q i)).map λ_=>D.bl true) (λa=>by rw[NK];exact OE (Pf _ _) (by simp));rw[Pc] at kk;have:n*n<=8*8:=RA hn hn;omega
theorem mH {p q:Bool}(h:p=true↔q=true):bi p=bi q:=by rw[Ov.mpr h]
theorem lV {n:Nat}{r o:List Nat}(R:Ord n r)(O:Ord n o)(hn:n<=8):dX [ay r,ay o]=some (.int (kW n r o)):=by
 apply aV (kd:=.s) (n:=4) (t:=lM);unfold lM;refine(aA (ρ':=[.v (ay r),.v (ay o),.v (.lst ((ND n).map (xy 0 o))),.no]) ((bd ((aN (ds:=[ay o,nI 0]) rfl rfl).trans (sD O hn 0))).trans rfl)).trans ?_
 refine(aA (ρ':=[.v (ay r),.v (ay o),.v (.lst ((ND n).map (xy 0 o))),.v (.lst ((ND n).map (xy 1 r)))]) ((bd ((aN (ds:=[ay r,nI 1]) rfl rfl).trans (sD R hn 1))).trans rfl)).trans ?_
 have pp: ∀(h:Nat) (p:List Nat) (k:Nat) (q:List Nat) (f g:FE) (ρ:aF),f ρ=some (.lst ((ND n).map (xy h p)))->g ρ=some (.lst ((ND n).map (xy k q)))->ak (nF 2 gX) (aa f (aa g aj)) ρ=some (.int (DH n h p k q)):=λh p k q f g ρ e1 e2=>
  (aN (ds:=[.lst ((ND n).map (xy h p)),.lst ((ND n).map (xy k q))]) (al e1 (al e2 rfl)) rfl).trans (Er hn h p k q)
 refine aT ((aB ((aB ((aB ((aB (pp 0 o 0 o _ _ _ rfl rfl) (pp 0 o 1 r _ _ _ rfl rfl)).trans rfl) (pp 1 r 0 o _ _ _ rfl rfl)).trans rfl) (pp 1 r 1 r _ _ _ rfl rfl)).trans rfl) (y:=.int 1) rfl).trans ?_);show some (D.int _)=_;congr 2;unfold kW;have e1:DH n 0 o 0 o=wR n o:=by
  unfold DH wR Cb;refine bh λi _=>bh λj _=>mH ?_
  simp only[NQ,decide_eq_true_eq];omega
 have e2:DH n 1 r 1 r=wR n r:=by
  unfold DH wR Cb;refine bh λi _=>bh λj _=>mH ?_
  simp only[NQ,decide_eq_true_eq];omega
 have e3:DH n 0 o 1 r=Fl n r o:=by
  unfold DH Fl Cb;refine bh λi _=>bh λj _=>mH ?_
  simp only[NQ,decide_eq_true_eq];omega
 have e4:DH n 1 r 0 o=Ff n r o:=by
  unfold DH Ff Cb;refine bh λi _=>bh λj _=>mH ?_
  simp only[NQ,decide_eq_true_eq];omega
 rw[e1,e2,e3,e4]
theorem vW {n:Nat}{r x o:List Nat}(R:Ord n r)(O:Ord n o)(hn:n<=8):gg [c6 r x,ay o]=some (.int (kW n r o)):=by
 apply aV (kd:=.s) (n:=2) (t:=tH);unfold tH;exact aT ((aN (ds:=[ay r,ay o]) rfl rfl).trans (lV R O hn))
section
variable {n:Nat}{r x:List Nat}{S:Nat->Nat}(R:Ord n r)(X:Ord n x)(H:Sg n r x S)(hn:n<=8)
include R X H hn
theorem Eo: ∃L,jo [c6 r x]=some (.lst L)/\L.length=((ND n).filter (iS S)).length:=by
 obtain⟨C,_,h⟩:=Bs R X H hn;exact⟨_,h,by rw[NK]⟩
theorem zU {o:List Nat}(O:Ord n o):jh [c6 r x,ay o]=some (.int (kW n r o-kW n x o-n+((ND n).filter (iS S)).length)):=by
 obtain⟨L,hL,hlen⟩:=Eo R X H hn;rw[<-hlen];apply aV (kd:=.s) (n:=5) (t:=yx);unfold yx;refine(aA (ρ':=[.v (c6 r x),.v (ay o),.v (ay r),.v (ay x),.no]) (dS (fU rfl) rfl)).trans ?_
 refine(aA (ρ':=[.v (c6 r x),.v (ay o),.v (ay r),.v (ay x),.v (.int (kW n r o-kW n x o))]) ((bd ((aB ((aN (ds:=[ay r,ay o]) rfl rfl).trans (lV R O hn)) ((aN (ds:=[ay x,ay o]) rfl rfl).trans (lV X O hn))).trans rfl)).trans rfl)).trans ?_
 refine aT ((aB ((aB (x:=.int (kW n r o-kW n x o)) rfl (gx r _ _ rfl)).trans (iI _ _)) ((bD (ds:=[.lst L]) (al ((aN (ds:=[c6 r x]) rfl rfl).trans hL) rfl)).trans rfl)).trans ?_);rw[R.len];rfl
end
set_option maxHeartbeats 4000000
theorem sX {n:Nat}{r x:List Nat}(R:Ord n r)(X:Ord n x){S S':Nat->Nat}(H:Sg n r x S)(H':Sg n (bv r) (bv x) S'):((ND n).filter (iS S')).length=((ND n).filter (iS S)).length:=by
 have st: ∀c,c<n->S' (r.getD (S c) 0)=r.getD c 0:=λc hc=>by
  have e1:=pN X (R.get hc) (H.ev c hc);have ls:=H.lt c hc;have e2:=pN X.tip (R.tip.get (R.get ls)) (H'.ev _ (R.get ls));rw[fG R ls] at e2;exact X.tip.inj (H'.lt _ (R.get ls)) (R.get hc) (by rw[e2,<-e1,fG X ls])
 have pred: ∀d,d<n-> ∃c,c<n/\S c=d:=λd hd=>by
  obtain⟨m,e⟩:=jV H hd ⟨1,rfl⟩;have lt: ∀m,nM S m (nM S 1 d)<n:=λm=>by
   induction m with
   |zero=>exact H.lt d hd
   |succ m ih=>exact H.lt _ ih
  cases m with
  |zero=>exact⟨d,hd,e⟩
  |succ m=>exact⟨nM S m (nM S 1 d),lt m,e⟩
 have fw: ∀a,a<n-> ∀m,nM S m a<n/\rg S' (r.getD (nM S m a) 0) (r.getD a 0):=λa ha m=>by
  induction m with
  |zero=>exact⟨ha,gy _ _⟩
  |succ m ih=>exact⟨H.lt _ ih.1,kG ⟨1,st _ ih.1⟩ ih.2⟩
 have bw: ∀a,a<n-> ∀m,∃d,d<n/\nM S' m (r.getD a 0)=r.getD d 0/\rg S a d:=λa ha m=>by
  induction m with
  |zero=>exact⟨a,ha,rfl,gy _ _⟩
  |succ m ih=>
   obtain⟨d,hd,e,q⟩:=ih;obtain⟨c,hc,e2⟩:=pred d hd;refine⟨c,hc,?_,kG q (jV H hc ⟨1,e2⟩)⟩;show S' (nM S' m _)=_;rw[e,<-e2,st c hc]
 refine Cs H H' (t:=λc=>r.getD c 0) (λc hc=>R.get hc) (λv hv=>⟨_,(cv R hv).1,(cv R hv).2⟩) λa b ha hb=>⟨λ⟨m,e⟩=>?_,λ⟨m,e⟩=>?_⟩
 ·obtain⟨d,hd,e2,q⟩:=bw a ha m;rw[R.inj hb hd (e.symm.trans e2)];exact q
 ·have:=(fw a ha m).2;rw[e] at this;exact jV H' (R.get hb) this
theorem nU {n:Nat}{o:List Nat}(O:Ord n o)(hn:n<=100):b9 [ay o]=some (ay (bv o)):=by
 apply aV (kd:=.s) (n:=1) (t:=gQ);unfold gQ;refine aT ((bD (ds:=[.lst ((bv o).map nI)]) (al (c9 (ds:=(ND n).map nI) (gM (n:=n) (al (O.len▸gx o _ _ rfl) rfl) (by omega)) (by simp;omega) ?_) rfl)).trans rfl);unfold bv;rw[N6,O.len];refine eJ (h:=nI) (o:=λv=>nI (o.idxOf v)) _ λv hv=>⟨_,rfl,?_⟩
 rw[NF] at hv;refine(aB (x:=ay o) (y:=nI v) rfl rfl).trans ?_
 obtain⟨j,h1,h2,h3⟩:=vP v o (O.has hv);show(if cE (o.map nI)<=32 then(o4 (o.map nI) (nI v)).map (λj=>D.int j) else none)=_;rw[if_pos (by rw[hZ];omega)];unfold o4;rw[h1];have:j=o.idxOf v:=by
  have:=xP O (c:=j) (by rw[<-O.len];exact h2);rw[h3] at this;exact this.symm
 rw[<-this];rfl
theorem mV {n:Nat}{r x:List Nat}(R:Ord n r)(X:Ord n x)(hn:n<=100):dn [c6 r x]=some (c6 (bv r) (bv x)):=by
 apply aV (kd:=.s) (n:=3) (t:=pQ);unfold pQ;exact(aA (ρ':=[.v (c6 r x),.v (ay r),.v (ay x)]) (dS (fU rfl) rfl)).trans (aT (ck (al ((aN (ds:=[ay r]) rfl rfl).trans (nU R hn)) (al ((aN (ds:=[ay x]) rfl rfl).trans (nU X hn)) rfl)) (by simp)))
theorem xI {n:Nat}{o:List Nat}(O:Ord n o)(hn:n<=100):bO [ay o]=some (ay (bv o)):=by
 apply aV (kd:=.s) (n:=1) (t:=gu);unfold gu;exact aT ((aN (ds:=[ay o]) rfl rfl).trans (nU O hn))
theorem C9(a b:Int):fq (.tup [.int a,.int b])<=32:=by
 show cE [.int a,.int b]+1<=32;simp[cE,fq]
section
variable {n c:Nat}{r x:List Nat}(h4:4<=n)(h5:n<=5)(hc:c+1<n)(R:Ord n r)(X:Ord n x)(N:NI n (r.getD c 0) (x.getD c 0) (r.getD (c+1) 0) (x.getD (c+1) 0))
include h4 h5 hc R X N
theorem HV(o:List Nat):(sp n (uA n c r x o)).length<=10:=by
 have p:=(rS hc (λj=>dI n (r,x) o (c+1) j (c+1) [(r,x),(br r c (c+1),br x c (c+1))] [bA (r.getD c 0) (x.getD c 0) (r.getD (c+1) 0)]) (λj=>dI n (r,x) o j (c+1) c [(br r c (c+1),br x c (c+1)),(r,x)] [bA (r.getD c 0) (x.getD c 0) (r.getD (c+1) 0)]) o).length_eq;rw[NK] at p;have:=zR (qx (λj=>dI n (r,x) o (c+1) j (c+1) [(r,x),(br r c (c+1),br x c (c+1))] [bA (r.getD c 0) (x.getD c 0) (r.getD (c+1) 0)]) (λj=>dI n (r,x) o j (c+1) c [(br r c (c+1),br x c (c+1)),(r,x)] [bA (r.getD c 0) (x.getD c 0) (r.getD (c+1) 0)]) o (c+1)) 2 (ND n) λj _=>Fb _ _ _ _ _
 unfold jU at p;rw[Pc] at this;have e:(sp n (uA n c r x o)).length=_:=p.symm;rw[e];omega
theorem Dl {s:List Nat}(O:Ord n s){z:List Int}(hz:z∈wx (eR n (uA n c r x)) [zs s]): ∃e,Ord n e/\z=zs e/\kW n (br r c (c+1)) e=kW n r s/\kW n (br x c (c+1)) e=kW n x s:=by
 have h1:([zs s].flatMap (eR n (uA n c r x))).count z % 2=1:=mem_oddSrt.mp hz;have h2:=PV.mp (show 0<([zs s].flatMap (eR n (uA n c r x))).count z by omega);rw[Oj,SH,O2] at h2;unfold eR at h2;rw[iG] at h2;obtain⟨p,hp,rfl⟩:=N5.mp h2;obtain⟨l1,l2,ne,b⟩:=sp_mem.mp hp;exact⟨_,O.exx l1 l2,rfl,Gy h5 hc R X N O l1 l2 ne ((zA h4 h5 hc R X N s O p.1 p.2 l1 l2 ne).mp b)⟩
end
theorem vx {n:Nat}(hn:n<=5){K:List (List Int)}(hK:jK n K)(hl:K.length<=900){s:List Sl}(hs:s.length=4){f:FE}(h1:f s=some (kD K)):bM 1 (cX f) (gN 4) (bT) (ak (nF 1 bO) (aa (ai 4) (aj))) s=some (kD (K.map tK)):=by
 have c:=c9 (m:=1) (g:=gN 4) (p:=bT) (f:=ak (nF 1 bO) (aa (ai 4) (aj))) (ys:=(K.map tK).map de) (fD h1) (by rw[NK];omega) ?_
 ·exact c
 ·rw[N6];refine eJ (h:=de) (o:=de∘tK) K λk hk=>?_
  obtain⟨o,O,rfl⟩:=hK k hk;have g4:gN 4 (de (zs o)) (s++NR 1 .no)=some (s++[.v (de (zs o))]):=by
   match s,hs with
   | [_,_,_,_],_=>rfl
  refine⟨s++[.v (de (zs o))],g4,?_⟩;have a1:aa (ai 4) (aj) (s++[.v (de (zs o))])=some [ay o]:=by
   rw[j0]
   match s,hs with
   | [_,_,_,_],_=>rfl
  refine((aN (ds:=[ay o]) a1 rfl).trans (xI O (by omega))).trans ?_
  show some (ay (bv o))=some (de (tK (zs o)));rw[nn,j0]
section
variable {n c:Nat}{r x:List Nat}(h4:4<=n)(h5:n<=5)(hc:c+1<n)(R:Ord n r)(X:Ord n x)(N:NI n (r.getD c 0) (x.getD c 0) (r.getD (c+1) 0) (x.getD (c+1) 0))
include h4 h5 hc R X N
theorem AN {K:List (List Int)}(hK:jK n K)(lK:K.length<64)(hl:((rO (K.map tK)).flatMap (eR n (uA n c r x))).length<64):eE [c6 (bv r) (bv x),nI c,kD K]=some (kD (rO ((wx (eR n (uA n c r x)) (rO (K.map tK))).map tK))):=by
 have h0:0<n:=by omega
 have s1:jK n (K.map tK):=ub hK;have s2:jK n (rO (K.map tK)):=uF s1
 let L:=wx (eR n (uA n c r x)) (rO (K.map tK))
 have sL:jK n L:=zD s2;have lL:L.length<64:=by
  show(cn _).length<64;unfold cn;rw[(aS (lt:=bu) _).length_eq];exact Pz (pk _) hl
 have q1:a8 3 (ak cO (aa (bM 1 (cX (ai 2)) (gN 4) (bT) (ak (nF 1 bO) (aa (ai 4) (aj)))) (aj))) [.v (c6 (bv r) (bv x)),.v (nI c),.v (kD K),.no]=.nx [.v (c6 (bv r) (bv x)),.v (nI c),.v (kD K),.v (kD (rO (K.map tK)))]:=
  (bd ((bD (ds:=[kD (K.map tK)]) (al (vx h5 hK (by omega) rfl rfl) rfl)).trans (Dj (by rw[NK];exact lK) (uK h0 s1)))).trans rfl
 have l1:ak (nF 3 vz) (aa (ak (nF 1 dn) (aa (ai 0) (aj))) (aa (ai 1) (aa (ai 3) (aj)))) [.v (c6 (bv r) (bv x)),.v (nI c),.v (kD K),.v (kD (rO (K.map tK)))]=some (kD L):=by
  refine(aN (ds:=[c6 r x,nI c,kD (rO (K.map tK))]) (al ((aN (ds:=[c6 (bv r) (bv x)]) rfl rfl).trans ((mV R.tip X.tip (by omega)).trans (by rw[gp R,gp X]))) rfl) rfl).trans (Jc h4 h5 hc R X N s2 hl)
 apply aV (kd:=.n) (n:=4) (t:=oI) (ρ:=[.v (c6 (bv r) (bv x)),.v (nI c),.v (kD K),.v (kD (rO (K.map tK)))]);unfold oI;exact(aA q1).trans (aT ((bD (ds:=[kD (L.map tK)]) (al (vx h5 sL (by omega) rfl l1) rfl)).trans (Dj (by rw[NK];exact lL) (uK h0 (ub sL)))))
end
theorem Iu(ns:List Int)(hn:ns.length<=63):HK [kK ns]=some (.bl true):=by
 refine qN (kd:=.s) (n:=11) (t:=CJ) ?_
 unfold CJ;refine Ii (λρ=> ∃s1 s2 s3 s4 s5 s6 s7 s8 s9 s10,ρ=[.v (kK ns),s1,s2,s3,s4,s5,s6,s7,s8,s9,s10]) (Ft (ds:=(ND 2).map nI) (cF (gM (al rfl rfl) (by omega))) (Ai _ (λd hd ρ hρ=>?_) _ ⟨_,_,_,_,_,_,_,_,_,_,rfl⟩)) λρ' hρ'=>⟨ρ',aT rfl⟩
 obtain⟨k,hk,rfl⟩:=N5.mp hd;rw[NF] at hk;obtain⟨s1,s2,s3,s4,s5,s6,s7,s8,s9,s10,rfl⟩:=hρ;obtain⟨a0,b0,eb,B⟩:=JB ns k (by omega) hn;obtain⟨d1,a1,b1,et,B1,d10,d11⟩:=pA (m:=3) B (by omega) (by decide) (by decide);obtain⟨n,hmm,h4,h5⟩: ∃m:Nat,bo (.lst [.int 4,.int 4,.int 5]) (.int d1)=some (nI m)/\4<=m/\m<=5:=by
  have:d1=0\/d1=1\/d1=2:=by omega
  rcases this with e|e|e<;>subst e
  ·exact⟨4,rfl,by omega,by omega⟩
  ·exact⟨4,rfl,by omega,by omega⟩
  ·exact⟨5,rfl,by omega,by omega⟩
 obtain⟨r,x,c,bg,en,⟨N2,a2,b2,B2,hN2,rfl⟩,R,X,hc,N⟩:=EB h4 h5 B1 (by omega);obtain⟨o,a4,b4,eo,O,B4⟩:=ql B2 (n:=n) (by omega) (by omega);have h0:0<n:=by omega
 have hc':c<n:=by omega
 have R':=R.exx hc' hc;have X':=X.exx hc' hc;have er:=AQ R hc;have ex:=AQ X hc;have Rt:=R.tip;have Xt:=X.tip;have S1:jK n [zs o]:=λk hk=>⟨o,O,Om.mp hk⟩
 have e1:D.lst [ay o]=kD [zs o]:=by rw[j0];rfl
 let u:=bv o
 have U:Ord n u:=O.tip;have Su:jK n [zs u]:=λk hk=>⟨u,U,Om.mp hk⟩
 have eu:rO ([zs o].map tK)=[zs u]:=by rw[NS,Qu,nn];rfl
 have ag: ∀k,k<n->k≠c->k≠c+1->(br r c (c+1)).getD k 0=r.getD k 0/\(br x c (c+1)).getD k 0=x.getD k 0:=λk _ h1 h2=>⟨er.2.2 k h1 h2,ex.2.2 k h1 h2⟩
 have bi:=zA h4 h5 hc R X N;have main:=Fr h4 h5 hc R X R' X' N ag er.1 er.2.1 ex.1 ex.2.1 bi Su;have ln:=Km h4 h5 hc R X R' X' N ag er.1 er.2.1 ex.1 ex.2.1 bi U
 let L1:=wx (eR n (uA n c r x)) [zs u]
 have sL1:jK n L1:=zD Su;have f1:([zs u].flatMap (eR n (uA n c r x))).length<=10:=by
  rw[Oj,SH,O2];unfold eR;rw[NK];exact HV h4 h5 hc R X N _
 let B0:=J9 n r x [zs u]
 have sB0:jK n B0:=tX Su;have eb0:J9 n (bv r) (bv x) [zs o]=rO (B0.map tK):=by
  have:=y8 R X Su;rw[show bj bu ([zs u].map tK)=[zs o] by rw[NS,Qu,nn,gp O];rfl] at this;exact this
 have lb0: ∀(r x:List Nat) (k:List Int),(bK n r x [k]).length<64:=λr x k=>by
  unfold bK;rw[Oj,SH,O2];have h2:(eI n r x k).length<=n*n:=by unfold eI;rw[NK];exact Jy n _
  have h3:n*n<=5*5:=RA h5 h5;omega
 have lB0:B0.length<64:=by
  show(cn _).length<64;unfold cn;rw[(aS (lt:=bu) _).length_eq];exact Pz (pk _) (lb0 r x (zs u))
 have sT0:jK n (rO (B0.map tK)):=uF (ub sB0);have eB0:rO ((rO (B0.map tK)).map tK)=B0:=(GO sB0).trans (F6 _);obtain⟨Sg1,H1⟩:=zG R X;obtain⟨Sg2,H2⟩:=zG R' X';obtain⟨Sg3,H3⟩:=zG Rt Xt;obtain⟨Sg4,H4⟩:=zG R'.tip X'.tip;have hl1:=C6 R X hc H1 H2;have hl2:=sX R X H1 H3;have hl3:=sX R' X' H2 H4
 let T:D:=c6 (bv r) (bv x)
 let Q:D:=c6 (bv (br r c (c+1))) (bv (br x c (c+1)))
 let hm:D:=.tup [.int (kW n r u),.int (kW n r u-kW n x u-n+((ND n).filter (iS Sg1)).length)]
 let st:Sl->Sl->aF:=λs9 s10=>[.v (kK ns),.v (nI k),.own (aH a4 b4),.v (nI n),.v (c6 r x),.v (nI c),.v T,.v Q,.v (ay o),s9,s10]
 have q1:gH 2 (ak (nF 2 kF) (aa (ai 0) (aa (ai 1) (aj)))) [.v (kK ns),.v (nI k),s2,s3,s4,s5,s6,s7,s8,s9,s10]=.nx [.v (kK ns),.v (nI k),.own (aH a0 b0),s3,s4,s5,s6,s7,s8,s9,s10]:=(mw ((aN (ds:=[kK ns,nI k]) rfl rfl).trans eb)).trans rfl;have q2:ki 3 (xo bo (pu (cq (aa (aD (.int 4)) (aa (aD (.int 4)) (aa (aD (.int 5)) (aj)))))) (aQ 2 1 bn (cN (aa (aD (.int 3)) (aj))))) [.v (kK ns),.v (nI k),.own (aH a0 b0),s3,s4,s5,s6,s7,s8,s9,s10]=.nx [.v (kK ns),.v (nI k),.own (aH a1 b1),.v (nI n),s4,s5,s6,s7,s8,s9,s10]:=
  (kI (F9 (fU (fo rfl (by simp))) (dM (i:=2) (n:=1) (b0:=aH a0 b0) (ds:=[.int 3]) rfl (cF rfl) rfl rfl et) hmm)).trans rfl
 have q3:cy (gT 2 (cQ (gN 4) (cQ (gN 5) (gU)))) (aQ 2 1 bZ (cN (aa (ai 3) (aj)))) [.v (kK ns),.v (nI k),.own (aH a1 b1),.v (nI n),s4,s5,s6,s7,s8,s9,s10]=.nx [.v (kK ns),.v (nI k),.own (aH a2 b2),.v (nI n),.v (c6 r x),.v (nI c),s6,s7,s8,s9,s10]:=
  dS (dM (i:=2) (n:=1) (b0:=aH a1 b1) (ds:=[nI n]) rfl (cF rfl) rfl rfl en) rfl
 have q4:a8 6 (ak (nF 1 dn) (aa (ai 4) (aj))) [.v (kK ns),.v (nI k),.own (aH a2 b2),.v (nI n),.v (c6 r x),.v (nI c),s6,s7,s8,s9,s10]=.nx [.v (kK ns),.v (nI k),.own (aH a2 b2),.v (nI n),.v (c6 r x),.v (nI c),.v T,s7,s8,s9,s10]:=
  (bd ((aN (ds:=[c6 r x]) rfl rfl).trans (mV R X (by omega)))).trans rfl
 have ch:dh [T,nI c]=some Q:=by
  apply aV (kd:=.s) (n:=2) (t:=gR) (ρ:=[.v T,.v (nI c)]);unfold gR;refine aT ((aN (ds:=[c6 (br r c (c+1)) (br x c (c+1))]) (al ?_ rfl) rfl).trans (mV R' X' (by omega)));exact(aN (ds:=[c6 r x,nI c]) (al ((aN (ds:=[T]) rfl rfl).trans ((mV Rt Xt (by omega)).trans (by rw[gp R,gp X]))) rfl) rfl).trans (D3 h4 h5 hc R X N)
 have q5:a8 7 (ak (nF 2 dh) (aa (ai 6) (aa (ai 5) (aj)))) [.v (kK ns),.v (nI k),.own (aH a2 b2),.v (nI n),.v (c6 r x),.v (nI c),.v T,s7,s8,s9,s10]=.nx [.v (kK ns),.v (nI k),.own (aH a2 b2),.v (nI n),.v (c6 r x),.v (nI c),.v T,.v Q,s8,s9,s10]:=
  (bd ((aN (ds:=[T,nI c]) rfl rfl).trans ch)).trans rfl
 have q6:ki 8 (jS jc (ga (aQ 2 1 bB (cN (aa (ai 3) (aj)))) (cN (aj)))) [.v (kK ns),.v (nI k),.own (aH a2 b2),.v (nI n),.v (c6 r x),.v (nI c),.v T,.v Q,s8,s9,s10]=.nx (st s9 s10):=
  (kI (vc (ds:=[.lst (o.map nI)]) (d:=ay o) (mJ (dM (i:=2) (n:=1) (b0:=aH a2 b2) (ds:=[nI n]) rfl (cF rfl) rfl rfl eo) rfl) rfl)).trans rfl
 have lo: ∀s9 s10,cq (aa (ai 8) (aj)) (st s9 s10)=some (kD [zs o]):=λs9 s10=>(fo (ds:=[ay o]) rfl (by simp)).trans (by rw[e1])
 let Th:=rO (L1.map tK)
 have sTh:jK n Th:=uF (ub sL1);have q7:a8 9 (ak (nF 3 eE) (aa (ai 6) (aa (ai 5) (aa (cq (aa (ai 8) (aj))) (aj))))) (st s9 s10)=.nx (st (.v (kD Th)) s10):=by
  have:=AN h4 h5 hc R X N S1 (by simp) (by rw[eu];omega);rw[eu] at this;exact(bd ((aN (ds:=[T,nI c,kD [zs o]]) (al rfl (al rfl (al (lo _ _) rfl))) rfl).trans this)).trans rfl
 have b1:ak (nF 2 dJ) (aa (ai 7) (aa (ak qM (aa (ai 9) (aj))) (aj))) (st (.v (kD Th)) s10)=some (kD (rO ((wx (eR n (uA n c r x)) B0).map tK))):=by
  refine(aN (ds:=[Q,kD Th]) rfl rfl).trans ((rQ (by omega) h5 R'.tip X'.tip sTh ?_).trans ?_)
  ·rw[(zu R' X' sL1).length_eq,NK];have:=Ac (n:=n) (F:=(uA n c r x)) (G:=cg (br r c (c+1)) (br x c (c+1))) u;exact Pz this (by omega)
  ·rw[show Th=bj bu (L1.map tK) from rfl,y8 R' X' sL1];show some (kD (rO ((wx (eR n (cg (br r c (c+1)) (br x c (c+1)))) L1).map tK)))=_;rw[main];rfl
 have b2:ak (nF 3 eE) (aa (ai 6) (aa (ai 5) (aa (ak (nF 2 dJ) (aa (ai 6) (aa (cq (aa (ai 8) (aj))) (aj)))) (aj)))) (st (.v (kD Th)) s10)=some (kD (rO ((wx (eR n (uA n c r x)) B0).map tK))):=by
  have bb:ak (nF 2 dJ) (aa (ai 6) (aa (cq (aa (ai 8) (aj))) (aj))) (st (.v (kD Th)) s10)=some (kD (rO (B0.map tK))):=
   (aN (ds:=[T,kD [zs o]]) (al rfl (al (lo _ _) rfl)) rfl).trans ((rQ (by omega) h5 Rt Xt S1 (lb0 _ _ _)).trans (by rw[eb0]))
  have:=AN h4 h5 hc R X N sT0 (by rw[(aS (lt:=bu) _).length_eq,NK];exact lB0) (by
   rw[eB0];have:=Ac (n:=n) (F:=cg r x) (G:=(uA n c r x)) u
   exact Pz this (by omega))
  rw[eB0] at this;exact(aN (ds:=[T,nI c,kD (rO (B0.map tK))]) (al rfl (al rfl (al bb rfl))) rfl).trans this
 have q8:bQ (aw l9 (ak (nF 2 dJ) (aa (ai 7) (aa (ak qM (aa (ai 9) (aj))) (aj)))) (ak (nF 3 eE) (aa (ai 6) (aa (ai 5) (aa (ak (nF 2 dJ) (aa (ai 6) (aa (cq (aa (ai 8) (aj))) (aj)))) (aj)))))) (st (.v (kD Th)) s10)=some false:=bY ((aB b1 b2).trans (G6 (LH _)));have gt: ∀ {m:List Nat},Ord n m->kW n (bv m) o=kW n m u:=λ{m} M=>by
  have:=Ea U M;rwa [show bv u=o from gp O] at this
 have q9:a8 10 (cz (aa (ak (nF 2 gg) (aa (ai 6) (aa (ai 8) (aj)))) (aa (ak (nF 2 jh) (aa (ai 6) (aa (ai 8) (aj)))) (aj)))) (st (.v (kD Th)) s10)=.nx (st (.v (kD Th)) (.v hm)):=
  (bd (ck (al ((aN (ds:=[T,ay o]) rfl rfl).trans ((vW Rt O (by omega)).trans (by rw[gt R]))) (al ((aN (ds:=[T,ay o]) rfl rfl).trans ((zU Rt Xt H3 (by omega) O).trans (by rw[gt R,gt X,hl2]))) rfl)) (by simp))).trans rfl
 have q10:ak Fa (aa (bM 1 (cX (ai 9)) (gN 11) (bT) (aw pJ (cz (aa (ak (nF 2 gg) (aa (ai 7) (aa (ai 11) (aj)))) (aa (ak (nF 2 jh) (aa (ai 7) (aa (ai 11) (aj)))) (aj)))) (ai 10))) (aj)) (st (.v (kD Th)) (.v hm))=some (.bl true):=by
  have lTh:Th.length<=63:=by
   show(bj bu (L1.map tK)).length<=63;rw[(aS (lt:=bu) _).length_eq,NK];show(cn _).length<=63;unfold cn;rw[(aS (lt:=bu) _).length_eq];exact OE (pk _) (OE f1 (by omega))
  have c1:bM 1 (cX (ai 9)) (gN 11) (bT) (aw pJ (cz (aa (ak (nF 2 gg) (aa (ai 7) (aa (ai 11) (aj)))) (aa (ak (nF 2 jh) (aa (ai 7) (aa (ai 11) (aj)))) (aj)))) (ai 10)) (st (.v (kD Th)) (.v hm))=some (.lst ((Th.map λ_=>true).map D.bl)):=by
   refine c9 (ds:=Th.map de) (fD rfl) (by rw[NK];omega) ((iE (h:=de) (o:=λ_=>.bl true) (q:=λ_=>true) Th λz hz=>⟨st (.v (kD Th)) (.v hm)++[.v (de z)],rfl,rfl,λ_=>?_⟩).trans (by rw[OW.mpr λ_ _=>rfl,N6];rfl));obtain⟨z',hz',rfl⟩:=N5.mp (mem_srt.mp hz);obtain⟨e,E,rfl,g1,g2⟩:=Dl h4 h5 hc R X N U hz';rw[nn];have Et:=E.tip;have ge: ∀ {m:List Nat},Ord n m->kW n (bv m) (bv e)=kW n m e:=λ{m} M=>Ea E M
   have a1:aa (ai 7) (aa (ai 11) (aj)) (st (.v (kD Th)) (.v hm)++[.v (de (zs (bv e)))])=some [Q,ay (bv e)]:=by rw[j0];rfl
   have t1:cz (aa (ak (nF 2 gg) (aa (ai 7) (aa (ai 11) (aj)))) (aa (ak (nF 2 jh) (aa (ai 7) (aa (ai 11) (aj)))) (aj))) (st (.v (kD Th)) (.v hm)++[.v (de (zs (bv e)))])=some hm:=by
    refine ck (al ((aN (ds:=[Q,ay (bv e)]) a1 rfl).trans ((vW R'.tip Et (by omega)).trans (by rw[ge R',g1]))) (al ((aN (ds:=[Q,ay (bv e)]) a1 rfl).trans ((zU R'.tip X'.tip H4 (by omega) Et).trans (by rw[ge R',ge X',g1,g2,hl3,hl1]))) rfl)) (by simp)
   exact(aB t1 (y:=hm) rfl).trans (Gh (C9 _ _))
  rw[bD (al c1 rfl),GK];congr 2;rw[Uy];simp
 refine⟨_,_,rfl,(aA q1).trans ((aA q2).trans ((aA q3).trans ((aA q4).trans ((aA q5).trans ((aA q6).trans ((aA q7).trans ((aA (jr q8)).trans ((aA q9).trans (jr (lU (b:=true) (jd q10))))))))))),⟨_,_,_,_,_,_,_,_,_,_,rfl⟩⟩
theorem df_of {K:NU}{h:Heap}{mg:Str->Option NG}(X:K.In h)(G:h.Ns OR mg){x:Str}{st:Stmt}{ps:List Str}{f:Addr}{oc:NG}{od an:Option Addr}{osl:Array (Option NG)}{kV doc pm cdv ct:NG}(a:Sa K OR x=some (some (.ref f)))
 (l:K.lookup f=some ⟨oc,od,.func (Uu x x (hJ st) (dw st) (ax st) .none kV doc pm an cdv ct),osl⟩) (c:V6 K cdv x=true) (k:Tn K (.ref f)=true)
 (b: ∀(kV doc pm:NG) (an:Option Addr) (cdv ct:NG) (us:List NG),us.length=ps.length->Z5 (Uu x x (hJ st) (dw st) (ax st) .none kV doc pm an cdv ct) ⟨us,[]⟩=pure (ps.zip us)):Df K mg x st ps:=
 ⟨_,_,ya l c k,W.mg_of X G a,(ya l c k).binds b⟩
theorem all_mk {L:Yu}{w:OT}{K:NU}{h:Heap}{mg:Str->Option NG}{fb fa:Addr}{od an:Option Addr}{sl:Array (Option NG)}{oc kV dc pm cd ct:NG}(X:K.In h)(G:h.Ns OR mg)(hfa:mg "law"=some (.ref fb))
 (d0:Df K mg "order_tipped" gS ["order"])
 (d1:Df K mg "order_exchanged" eS ["order","one","other"])
 (d2:Df K mg "order_rounds" gB ["order"])
 (d3:Df K mg "places_from" h9 ["size","start","end"])
 (d4:Df K mg "columns_of" jF ["stand","a","b"])
 (d5:Df K mg "rows_of" oy ["stand","a","b"])
 (d6:Df K mg "cells_of" lw ["stand","a","b"])
 (d7:Df K mg "behind" pW ["stand","a","b"])
 (d8:Df K mg "is_bare" n9 ["stand","a","b"])
 (d9:Df K mg "is_clear" lA ["square","stand","a","b"])
 (d10:Df K mg "is_step" nL ["square","stand","a","b"])
 (d11:Df K mg "steps_from" jq ["square","stand"])
 (d12:Df K mg "oddly_often" ii ["stands"])
 (d13:Df K mg "border" qR ["square","crowd"])
 (d14:Df K mg "lines_of" lz ["square"])
 (d15:Df K mg "lies_between" gI ["at","one","other"])
 (d16:Df K mg "tipped" pT ["square"])
 (d17:Df K mg "may_change" iV ["square","c"])
 (d18:Df K mg "columns_changed" eY ["square","c"])
 (d19:Df K mg "rows_changed" gr ["square","r"])
 (d20:Df K mg "turn_of" ou ["square","c"])
 (d21:Df K mg "has_mark" lO ["square","column","row"])
 (d22:Df K mg "columns_clear" f9 ["square","columns","rows"])
 (d23:Df K mg "bend_clear" je ["column","rows","bend"])
 (d24:Df K mg "is_bent" nK ["square","stand","a","b","column","bend"])
 (d25:Df K mg "ends_from" kf ["square","c","stand","right","left"])
 (d26:Df K mg "led" Ew ["square","c","crowd"])
 (d27:Df K mg "points_of" j4 ["order","half"])
 (d28:Df K mg "pairs" up ["ones","others"])
 (d29:Df K mg "grade_by" l4 ["marks","stand"])
 (d30:Df K mg "grade" tv ["square","stand"])
 (d31:Df K mg "lean" yQ ["square","stand"])
 (d32:Df K mg "stand_tipped" gq ["stand"])
 (d33:Df K mg "_law_cell" lq ["_law_script","_law_k"])
 (d34:Df K mg "_law_bag" nR ["_law_script","_law_at"])
 (d35:Df K mg "_law_take" lu ["_law_bag_here","_law_many"])
 (d36:Df K mg "_law_order" km ["_law_bag_here","_law_n"])
 (d37:Df K mg "_law_neighbours" fE ["_law_bag_here","_law_n"])
 (d38:Df K mg "_law_led" nZ ["_law_square","_law_r","_law_crowd"])
 (a:Sa K OR "law"=some (some (.ref fa))) (l:K.lookup fa=some ⟨oc,od,.func (Uu "law" "law" (hJ mf) (dw mf) (ax mf) .none kV dc pm an cd ct),sl⟩) (c:V6 K cd "law"=true) (k:Tn K (.ref fa)=true)
 (z_abs:Sa K OR "abs"=some none)
 (z_all:Sa K OR "all"=some none)
 (z_any:Sa K OR "any"=some none)
 (z_enumerate:Sa K OR "enumerate"=some none)
 (z_len:Sa K OR "len"=some none)
 (z_list:Sa K OR "list"=some none)
 (z_max:Sa K OR "max"=some none)
 (z_min:Sa K OR "min"=some none)
 (z_range:Sa K OR "range"=some none)
 (z_set:Sa K OR "set"=some none)
 (z_sorted:Sa K OR "sorted"=some none)
 (z_tuple:Sa K OR "tuple"=some none):
 ∃fd:QC,(∀(s:NH) (v:NG),V5 s fd ⟨[v],[]⟩ [("_law_script",v)])/\ ∀base:Heap,K.In base->base.Ns OR mg->FnOk L.prog w K mg base u3 8 fb fd ["_law_script"] (zr K):=by
 have e:=hfa.symm.trans (W.mg_of X G a);cases e;have F:=ya (st:=mf) l c k;have B:Bt mg:=⟨P9 X G z_abs,P9 X G z_all,P9 X G z_any,P9 X G z_enumerate,P9 X G z_len,P9 X G z_list,P9 X G z_max,P9 X G z_min,P9 X G z_range,P9 X G z_set,P9 X G z_sorted,P9 X G z_tuple⟩
 refine⟨Uu "law" "law" (hJ mf) (dw mf) (ax mf) .none kV dc pm an cd ct,λs v=>.of_eq rfl,λbase _ _=>?_⟩;have cf:=qT (P:=L.prog) (w:=w) (base:=base) B d0;have bI:=nz (P:=L.prog) (w:=w) (base:=base) B d1;have gz:=p5 (P:=L.prog) (w:=w) (base:=base) B d2;have cV:=rJ (P:=L.prog) (w:=w) (base:=base) B d3;have bW:=t9 (P:=L.prog) (w:=w) (base:=base) B d4 cV;have dv:=Bf (P:=L.prog) (w:=w) (base:=base) B d5 cV;have lW:=yH (P:=L.prog) (w:=w) (base:=base) B d6 dv bW;have gA:=E1 (P:=L.prog) (w:=w) (base:=base) B d7 bI;have gl:=Bb (P:=L.prog) (w:=w) (base:=base) B d8 bW dv;have l5:=xl (P:=L.prog) (w:=w) (base:=base) B d9 lW;have og:=Bp (P:=L.prog) (w:=w) (base:=base) B d10 gl l5;have jk:=uf (P:=L.prog) (w:=w) (base:=base) B d11 gA og;have cW:=rD (P:=L.prog) (w:=w) (base:=base) B d12;have mY:=Fd (P:=L.prog) (w:=w) (base:=base) B d13 cW jk;have lH:=xZ (P:=L.prog) (w:=w) (base:=base) B d14 gz;have cG:=pR (P:=L.prog) (w:=w) (base:=base) B d15;have dG:=DL (P:=L.prog) (w:=w) (base:=base) B d16 cf;have jx:=tz (P:=L.prog) (w:=w) (base:=base) B d17 cG;have bR:=mZ (P:=L.prog) (w:=w) (base:=base) B d18 jx bI;have gm:=qF (P:=L.prog) (w:=w) (base:=base) B d19 dG bR;have oq:=BJ (P:=L.prog) (w:=w) (base:=base) B d20 cG;have fz:=yR (P:=L.prog) (w:=w) (base:=base) B d21;have fW:=oZ (P:=L.prog) (w:=w) (base:=base) B d22 fz;have ji:=tY (P:=L.prog) (w:=w) (base:=base) B d23 fz;have ku:=BQ (P:=L.prog) (w:=w) (base:=base) B d24 dv fW ji gl bW;have kj:=wu (P:=L.prog) (w:=w) (base:=base) B d25 ku gA;have EQ:=K6 (P:=L.prog) (w:=w) (base:=base) B d26 bR cW oq kj;have g7:=v4 (P:=L.prog) (w:=w) (base:=base) B d27;have kM:=F3 (P:=L.prog) (w:=w) (base:=base) B d28;have dN:=xk (P:=L.prog) (w:=w) (base:=base) B d29 g7 kM;have pM:=GZ (P:=L.prog) (w:=w) (base:=base) B d30 dN;have uZ:=Jw (P:=L.prog) (w:=w) (base:=base) B d31 dN lH;have eO:=qo (P:=L.prog) (w:=w) (base:=base) B d32 cf;have lS:=xC (P:=L.prog) (w:=w) (base:=base) B d33;have oE:=BL (P:=L.prog) (w:=w) (base:=base) B d34 lS;have cC:=yD (P:=L.prog) (w:=w) (base:=base) B d35;have cM:=wI (P:=L.prog) (w:=w) (base:=base) B d36 cC;have fy:=oD (P:=L.prog) (w:=w) (base:=base) B d37 cC cM;have kO:=A5 (P:=L.prog) (w:=w) (base:=base) B d38 eO EQ dG;exact Iy (Jg (P:=L.prog) (w:=w) (base:=base) B F oE fy dG gm kO cC cM mY pM uZ) Iu
end L2
theorem PySem.W.Fast.tw11888198709448655497:True:=⟨⟩
theorem PySem.W.Fast.tw6625315087151014484:True:=⟨⟩
theorem PySem.W.Fast.tw4324305464438486552:True:=⟨⟩
theorem PySem.W.Fast.tw15007858773603011452:True:=⟨⟩
theorem PySem.W.Fast.tw4466334688225232447:True:=⟨⟩
theorem PySem.W.Fast.tw7228747650147935855:True:=⟨⟩
theorem PySem.W.Fast.tw17424868337211639625:True:=⟨⟩
theorem PySem.W.Fast.tw1374538552504066785:True:=⟨⟩
theorem PySem.W.Fast.tw7079012080825647015:True:=⟨⟩
theorem PySem.W.Fast.tw11078005198657561151:True:=⟨⟩
theorem PySem.W.Fast.tw8048056570061222940:True:=⟨⟩
theorem PySem.W.Fast.tw6489286839469847838:True:=⟨⟩
theorem PySem.W.Fast.tw12737349767696644438:True:=⟨⟩
theorem PySem.W.Fast.tw17174753629929121580:True:=⟨⟩
theorem PySem.W.Fast.tw6140104394847339023:True:=⟨⟩
theorem PySem.W.Fast.tw17874975568501834984:True:=⟨⟩
theorem PySem.W.Fast.tw10538462689538024263:True:=⟨⟩
theorem PySem.W.Fast.tw866210568543590871:True:=⟨⟩
theorem PySem.W.Fast.tw11827965230165141831:True:=⟨⟩
theorem PySem.W.Fast.tw12306042282402595264:True:=⟨⟩
theorem PySem.W.Fast.tw15819412434665932522:True:=⟨⟩
theorem PySem.W.Fast.tw17999411974691246095:True:=⟨⟩
theorem PySem.W.Fast.tw5260592343739866006:True:=⟨⟩
theorem PySem.W.Fast.tw2287836148625023618:True:=⟨⟩
theorem PySem.W.Fast.tw7394606971812439317:True:=⟨⟩
theorem PySem.W.Fast.tw18102986474217968209:True:=⟨⟩
theorem PySem.W.Fast.tw16357370390799366108:True:=⟨⟩
theorem PySem.W.Fast.tw7297717470656522091:True:=⟨⟩
theorem PySem.W.Fast.tw17986768243441149851:True:=⟨⟩
theorem PySem.W.Fast.tw11605549191246411022:True:=⟨⟩
theorem PySem.W.Fast.tw8727213765823446848:True:=⟨⟩
theorem PySem.W.Fast.tw8981158128830072399:True:=⟨⟩
theorem PySem.W.Fast.tw7851815271433174:True:=⟨⟩
theorem PySem.W.Fast.tw14015653312366572119:True:=⟨⟩
theorem PySem.W.Fast.tw1528038048236273521:True:=⟨⟩
theorem PySem.W.Fast.tw1066184581886704080:True:=⟨⟩
theorem PySem.W.Fast.tw3550294027940282535:True:=⟨⟩
theorem PySem.W.Fast.tw13316543067856085460:True:=⟨⟩
theorem PySem.W.Fast.tw2346080206967029009:True:=⟨⟩
theorem PySem.W.Fast.tw15420809785557442964:True:=⟨⟩
theorem PySem.W.Fast.tw11027208550188153758:True:=⟨⟩
theorem PySem.W.Fast.tw7800393275631941973:True:=⟨⟩
theorem PySem.W.Fast.tw17238095669388737614:True:=⟨⟩
theorem PySem.W.Fast.tw16099670157628427235:True:=⟨⟩
theorem PySem.W.Fast.tw11638174653427332716:True:=⟨⟩
theorem PySem.W.Fast.tw657121068483386308:True:=⟨⟩
theorem PySem.W.Fast.tw9186839480388935257:True:=⟨⟩
theorem PySem.W.Fast.tw540203366545808080:True:=⟨⟩
theorem PySem.W.Fast.tw2775797386606196804:True:=⟨⟩
theorem PySem.W.Fast.tw518954199292367093:True:=⟨⟩
theorem PySem.W.Fast.tw4753088371171556087:True:=⟨⟩
theorem PySem.W.Fast.tw13357493902385994373:True:=⟨⟩
theorem PySem.W.Fast.tw182906573376666037:True:=⟨⟩
theorem PySem.W.Fast.tw2633125356267294803:True:=⟨⟩
theorem PySem.W.Fast.tw17725482383616708493:True:=⟨⟩
theorem PySem.W.Fast.tw4960525162282040184:True:=⟨⟩
theorem PySem.W.Fast.tw7642767173070913990:True:=⟨⟩
theorem PySem.W.Fast.tw6020644179565893970:True:=⟨⟩
theorem PySem.W.Fast.tw7657652341111649179:True:=⟨⟩
theorem PySem.W.Fast.tw9158545137378644214:True:=⟨⟩
theorem PySem.W.Fast.tw10629837586483582122:True:=⟨⟩
theorem PySem.W.Fast.tw3277332000429715506:True:=⟨⟩
theorem PySem.W.Fast.tw5020951678682484580:True:=⟨⟩
theorem PySem.W.Fast.tw7056775180319353494:True:=⟨⟩
theorem PySem.W.Fast.tw2421757991119979489:True:=⟨⟩
theorem PySem.W.Fast.tw10584982886362491900:True:=⟨⟩
theorem PySem.W.Fast.tw18386367024698222274:True:=⟨⟩
theorem PySem.W.Fast.tw10203955225026900151:True:=⟨⟩
theorem PySem.W.Fast.tw10843728903323414731:True:=⟨⟩
theorem PySem.W.Fast.tw14299217453519340261:True:=⟨⟩
theorem PySem.W.Fast.tw6928458370073268258:True:=⟨⟩
theorem PySem.W.Fast.tw12443517098920596358:True:=⟨⟩
theorem PySem.W.Fast.tw17721529640496021297:True:=⟨⟩
theorem PySem.W.Fast.tw9747716224758452077:True:=⟨⟩
theorem PySem.W.Fast.tw1130771637921814132:True:=⟨⟩
theorem PySem.W.Fast.tw230790432692108327:True:=⟨⟩
theorem PySem.W.Fast.tw6656942783926973249:True:=⟨⟩
theorem PySem.W.Fast.tw769749728355115490:True:=⟨⟩
theorem PySem.W.Fast.tw11607592995016947405:True:=⟨⟩
theorem PySem.W.Fast.tw10054920097404974433:True:=⟨⟩
theorem PySem.W.Fast.tw13431711278822036590:True:=⟨⟩
theorem PySem.W.Fast.tw13426555720902862231:True:=⟨⟩
theorem PySem.W.Fast.tw5407330400771925819:True:=⟨⟩
theorem PySem.W.Fast.tw3603509692408526960:True:=⟨⟩
theorem PySem.W.Fast.tw4611847117905049837:True:=⟨⟩
theorem PySem.W.Fast.tw16056463957846435416:True:=⟨⟩
theorem PySem.W.Fast.tw7325262680017977822:True:=⟨⟩
theorem PySem.W.Fast.tw2950057077611347100:True:=⟨⟩
theorem PySem.W.Fast.tw6427923093723423382:True:=⟨⟩
theorem PySem.W.Fast.tw16162506353390164988:True:=⟨⟩
open PySem PySem.W PyProof.Rows
set_option maxRecDepth 100000 in
set_option maxHeartbeats 0 in
theorem PySem.Challenge.cw_rookborders_k53_whole_rows_exchanged_holds : PySem.Challenge.rw_rookborders_k53_whole_rows_exchanged.Holds := by
 w_on;o_law;k_head;(case hw=>w_witness2)
 k_fill
 refine L2.walkD (l:=SS) (k:=8) (x:="_law_script") rfl rfl ⟨rfl,by decide,by decide⟩ (λw h Y=>W.kIn_of Y) ?F
 case F=>
  intro w mg fa h KX G hmg;refine' L2.all_mk KX G hmg ?_ ?_ ?_ ?_ ?_ ?_ ?_ ?_ ?_ ?_ ?_ ?_ ?_ ?_ ?_ ?_ ?_ ?_ ?_ ?_ ?_ ?_ ?_ ?_ ?_ ?_ ?_ ?_ ?_ ?_ ?_ ?_ ?_ ?_ ?_ ?_ ?_ ?_ ?_ ?_ ?_ ?_ ?_ ?_ ?_ ?_ ?_ ?_ ?_ ?_ ?_ ?_ ?_ ?_ ?_
  all_goals first
   |(refine' L2.df_of KX G ?_ ?_ ?_ ?_ λ_ _ _ _ _ _ us hl=>L2.ar1 us hl λ_=>rfl)<;>try k_is
   |(refine' L2.df_of KX G ?_ ?_ ?_ ?_ λ_ _ _ _ _ _ us hl=>L2.ar2 us hl λ_ _=>rfl)<;>try k_is
   |(refine' L2.df_of KX G ?_ ?_ ?_ ?_ λ_ _ _ _ _ _ us hl=>L2.ar3 us hl λ_ _ _=>rfl)<;>try k_is
   |(refine' L2.df_of KX G ?_ ?_ ?_ ?_ λ_ _ _ _ _ _ us hl=>L2.ar4 us hl λ_ _ _ _=>rfl)<;>try k_is
   |(refine' L2.df_of KX G ?_ ?_ ?_ ?_ λ_ _ _ _ _ _ us hl=>L2.ar5 us hl λ_ _ _ _ _=>rfl)<;>try k_is
   |(refine' L2.df_of KX G ?_ ?_ ?_ ?_ λ_ _ _ _ _ _ us hl=>L2.ar6 us hl λ_ _ _ _ _ _=>rfl)<;>try k_is
   |try k_is
